/-
  What is proved: SpanCross returns true for all that it may be handed. Conditions: what came in lies in memory as the frame says.
-/
import Derived.Test.YtefcadngdcgpiaaSpW
import Derived.Test.YtefcadngdcgpiaaSpZ
import Derived.Deep.RegionHeld3
import Derived.Test.YtefcadngdcgpiaaFrameP
namespace Go.Proofs.Ytefcadngdcgpiaa
open Go Go.RowKit Go.Proofs
set_option linter.unusedVariables false
set_option linter.unusedSimpArgs false

set_option maxHeartbeats 8000000 in
set_option maxRecDepth 100000 in
theorem walkSpanCross (a b a' b' : Int) (p : Option Addr) (n cp : Nat) (zs : List Int) (w : World) (ha : in64 a) (hb : in64 b) (ha' : in64 a') (hb' : in64 b') (hr : IsRow .i64 w p n cp zs) :
    Calls Try.prog 10 #[.agg #[.int .i64 a, .int .i64 b], .agg #[.int .i64 a', .int .i64 b'], .slice p n cp] w fun e w' => e = .returned (.bool true) ∧ Below w.heap.size w w' := by
  obtain ⟨hl, hdi, h64, -⟩ := days_of hr
  clear hr
  generalize zs.take n = D at *
  subst hl
  obtain ⟨W0, hW0⟩ : ∃ W0, W0 = (w.alloc (.cells #[.int .i64 a, .int .i64 b] 39)).alloc (.cells #[.int .i64 a', .int .i64 b'] 39) := ⟨_, rfl⟩
  have hza : (w.alloc (.cells #[.int .i64 a, .int .i64 b] 39)).heap.size = w.heap.size + 1 := by simp
  have hb0 : Below w.heap.size w W0 := by rw [hW0]; exact ((Below.refl w.heap.size w).alloc (Nat.le_refl _) _).alloc (by simp) _
  have x0 : W0.cell? ⟨w.heap.size, 0, none⟩ = some (.int .i64 a) := by rw [hW0, World.cell?_alloc_lt _ _ _ (by rw [hza]; show w.heap.size < _; omega), World.cell?_alloc_new]; rfl
  have x1 : W0.cell? ⟨w.heap.size, 1, none⟩ = some (.int .i64 b) := by rw [hW0, World.cell?_alloc_lt _ _ _ (by rw [hza]; show w.heap.size < _; omega), World.cell?_alloc_new]; rfl
  have x2 : W0.cell? ⟨w.heap.size + 1, 0, none⟩ = some (.int .i64 a') := by rw [hW0, ← hza, World.cell?_alloc_new]; rfl
  have x3 : W0.cell? ⟨w.heap.size + 1, 1, none⟩ = some (.int .i64 b') := by rw [hW0, ← hza, World.cell?_alloc_new]; rfl
  have HD := Lib.hid (hdi.below hb0 (Nat.le_refl _))
  have H64A := Lib.hid (show in64 a ∧ in64 b from ⟨ha, hb⟩)
  have H64B := Lib.hid (show in64 a' ∧ in64 b' from ⟨ha', hb'⟩)
  have H64X := Lib.hid (cross64 (s := (a, b)) (t := (a', b')) ha hb ha' hb')
  have HC := Lib.hid (fun W => Cross_any a b a' b' W)
  have HC2 := Lib.hid (fun W => Cross_any a' b' a b W)
  rw [cross_comm (a', b') (a, b)] at HC2
  have HX := Lib.hid (cross_has (a, b) (a', b'))
  have hle1 := cross_len (a, b) (a', b')
  have hle2 := cross_len (a', b') (a, b)
  rw [cross_comm (a', b') (a, b)] at hle2
  generalize crossS (a, b) (a', b') = X at *
  obtain ⟨X0, Y0⟩ := X
  dsimp only at HC HC2 H64X
  have LA := Lib.hid (fun W => Length_any a b W ha hb)
  have LB := Lib.hid (fun W => Length_any a' b' W ha' hb')
  have LX := Lib.hid (fun W => Length_any X0 Y0 W H64X.out.1 H64X.out.2)
  generalize cut62 (lenS (a, b)) = la at *
  generalize cut62 (lenS (a', b')) = lb at *
  generalize cut62 (lenS (X0, Y0)) = lx at *
  clear hdi h64 ha hb ha' hb' hza
  by_cases hbig : 60 < D.length
  · have d1 : (60 : Int) < (D.length : Int) := by omega
    clear hbig
    go_enter Try.func10, Try.ntmps10
    go_wp2_with fail
    rw [← hW0]
    refine (awake_any _).mono ?_
    rintro e w1 ⟨rfl, hb1⟩
    clear hW0 x0 x1 x2 x3
    go_wp2
    go_ret
    exact ⟨rfl, hb0.trans (hb1.mono hb0.size)⟩
  have n0 : D.length ≤ 60 := by omega
  have d1 : ¬ (60 : Int) < (D.length : Int) := by omega
  clear hbig
  go_enter Try.func10, Try.ntmps10
  go_wp2_with fail
  rw [← hW0]
  clear hW0
  refine (awake_any _).mono ?_
  rintro e W1 ⟨rfl, hb1⟩
  have y0 := (hb1.cell (World.block_lt_of_cell? _ _ x0)).trans x0
  have y1 := (hb1.cell (World.block_lt_of_cell? _ _ x1)).trans x1
  have y2 := (hb1.cell (World.block_lt_of_cell? _ _ x2)).trans x2
  have y3 := (hb1.cell (World.block_lt_of_cell? _ _ x3)).trans x3
  have hb2 := hb0.trans (hb1.mono hb0.size)
  have HD1 := Lib.hid (HD.out.below hb1 (Nat.le_refl _))
  have HP := Lib.hid (fun W h => Pieces_any a b p cp D W (by omega) h)
  clear x0 x1 x2 x3 hb0 hb1 HD
  go_wp2_with fail
  refine (HC.out _).mono ?_
  rintro e w2 ⟨rfl, hb3⟩
  have hb4 := hb2.trans (hb3.mono hb2.size)
  obtain ⟨W4, hW4⟩ : ∃ W4, W4 = w2.alloc (.cells #[.int .i64 X0, .int .i64 Y0] 39) := ⟨_, rfl⟩
  have hb6 : Below w2.heap.size w2 W4 := by rw [hW4]; exact (Below.refl _ _).alloc (Nat.le_refl _) _
  have u4 : W4.cell? ⟨w2.heap.size, 0, none⟩ = some (.int .i64 X0) := by rw [hW4, World.cell?_alloc_new]; rfl
  have u5 : W4.cell? ⟨w2.heap.size, 1, none⟩ = some (.int .i64 Y0) := by rw [hW4, World.cell?_alloc_new]; rfl
  have hb7 := hb3.trans (hb6.mono hb3.size)
  have u0 := (kp1 y0 hb7).1
  have u1 := (kp1 y1 hb7).1
  have u2 := (kp1 y2 hb7).1
  have u3 := (kp1 y3 hb7).1
  have HD4 := Lib.hid (HD1.out.below hb7 (Nat.le_refl _))
  have hb5 := hb4.trans (hb6.mono hb4.size)
  have KP : Hid (∀ w', Below W4.heap.size W4 w' → (w'.cell? ⟨w.heap.size, 0, none⟩ = some (.int .i64 a) ∧ w'.cell? ⟨w.heap.size, 1, none⟩ = some (.int .i64 b) ∧ w'.cell? ⟨w.heap.size + 1, 0, none⟩ = some (.int .i64 a') ∧ w'.cell? ⟨w.heap.size + 1, 1, none⟩ = some (.int .i64 b') ∧ w'.cell? ⟨w2.heap.size, 0, none⟩ = some (.int .i64 X0) ∧ w'.cell? ⟨w2.heap.size, 1, none⟩ = some (.int .i64 Y0)) ∧ Below W4.heap.size W4 w') := Lib.hid (fun w' h => ⟨⟨(kp1 u0 h).1, (kp1 u1 h).1, (kp1 u2 h).1, (kp1 u3 h).1, (kp1 u4 h).1, (kp1 u5 h).1⟩, h⟩)
  clear y0 y1 y2 y3 u0 u1 u2 u3 u4 u5 HD1 hb2 hb3 hb4 hb6 hb7
  go_wp2
  rw [← hW4]
  clear hW4
  refine wp_region_held_drew (S := (fun w' => (w'.cell? ⟨w.heap.size, 0, none⟩ = some (.int .i64 a) ∧ w'.cell? ⟨w.heap.size, 1, none⟩ = some (.int .i64 b) ∧ w'.cell? ⟨w.heap.size + 1, 0, none⟩ = some (.int .i64 a') ∧ w'.cell? ⟨w.heap.size + 1, 1, none⟩ = some (.int .i64 b') ∧ w'.cell? ⟨w2.heap.size, 0, none⟩ = some (.int .i64 X0) ∧ w'.cell? ⟨w2.heap.size, 1, none⟩ = some (.int .i64 Y0)) ∧ Below W4.heap.size W4 w')) (by kernel_rfl) (KP.out _ kb_drew) (fun hHeld => ?_)
  have hk : Below W4.heap.size W4 W4.drew := kb_drew
  refine wpAnyH_via 16 #[true, true, true, true, true, true, true, true, true, true, true, true, true, true, true, true, true, true, true, true, true, true, true, true, true, true, true, true, true, true, true, false, false, false, false, false, false, false, false, false, false, false, false, false, false, false, false] (fun a w' => (∃ s0 s1 s5 s6 s8 s9 s10 s11 s12 s13 s14 s15 s16 s17 s18 s19 s20 s21 s22 s23 s24 s25 s26 s27 s28 s29 s30 s31 s32 s33 s34 s35 s37 s38 s39 s40 s41 s42 s43 s44 s45 s47 s48 s49 s50 s51 s52 s53 s54 s55 s56 s57 s58 s59 s60 s61 : Value, a = ⟨#[s0, s1, .slice p D.length cp, .pointer (some ⟨w.heap.size, 0, none⟩), .pointer (some ⟨w.heap.size + 1, 0, none⟩), s5, s6, .pointer (some ⟨w2.heap.size, 0, none⟩), s8, s9, s10, s11, s12, s13, s14, s15, s16, s17, s18, s19, s20, s21, s22, s23, s24, s25, s26, s27, s28, s29, s30, s31, s32, s33, s34, s35, .bool true, s37, s38, s39, s40, s41, s42, s43, s44, s45, .bool true, s47, s48, s49, s50, s51, s52, s53, s54, s55, s56, s57, s58, s59, s60, s61], []⟩) ∧ Below W4.heap.size W4 w') ?_ (fun J2 => ?_)
  · as_aux_lemma =>
    rintro a5 y ⟨⟨s0, s1, s5, s6, s8, s9, s10, s11, s12, s13, s14, s15, s16, s17, s18, s19, s20, s21, s22, s23, s24, s25, s26, s27, s28, s29, s30, s31, s32, s33, s34, s35, s37, s38, s39, s40, s41, s42, s43, s44, s45, s47, s48, s49, s50, s51, s52, s53, s54, s55, s56, s57, s58, s59, s60, s61, rfl⟩, hk⟩
    have hHeld := KP.out _ hk
    refine wpAnyH_take (i := 31) (oi := { dst := some 47, op := Op.pick (Operand.tmp 36) (Operand.tmp 46) (Operand.const (Value.bool false)), type := 4, pos := "law.go:151", after := #[{ on := 20, ground := Ground.data }, { on := 30, ground := Ground.data }], guard := none }) (v := ?_) rfl (by kernel_rfl) (by kernel_rfl) (by kernel_rfl) (fun _ _ _ h => h) (Or.inl ⟨by kernel_rfl, ?_⟩) (by assumption) ?_
    rotate_left 1
    · intro w hSw
      (try dsimp only at hSw)
      go_simp
      all_goals (with_reducible rfl)
    try (conv => arg 8; simp only [Act.put, List.setIfInBounds_toArray, List.set_cons_zero, List.set_cons_succ])
    refine wpAnyH_take (i := 32) (oi := { dst := some 48, op := Op.move (Operand.tmp 47), type := 4, pos := "law.go:151", after := #[{ on := 31, ground := Ground.data }, { on := 30, ground := Ground.chain }], guard := none }) (v := ?_) rfl (by kernel_rfl) (by kernel_rfl) (by kernel_rfl) (fun _ _ _ h => h) (Or.inl ⟨by kernel_rfl, ?_⟩) (by assumption) ?_
    rotate_left 1
    · intro w hSw
      (try dsimp only at hSw)
      go_simp
      all_goals (with_reducible rfl)
    try (conv => arg 8; simp only [Act.put, List.setIfInBounds_toArray, List.set_cons_zero, List.set_cons_succ])
    refine wpAnyH_take (i := 33) (oi := { dst := some 49, op := Op.load 39 (Operand.tmp 7), type := 39, pos := "law.go:151", after := #[{ on := 32, ground := Ground.guard }], guard := some (32, true) }) (v := ?_) rfl (by kernel_rfl) (by kernel_rfl) (by kernel_rfl) (fun _ _ _ h => h) (Or.inl ⟨by kernel_rfl, ?_⟩) (by assumption) ?_
    rotate_left 1
    · intro w hSw
      (try dsimp only at hSw)
      go_simp
      all_goals (with_reducible rfl)
    try (conv => arg 8; simp only [Act.put, List.setIfInBounds_toArray, List.set_cons_zero, List.set_cons_succ])
    refine wpAnyH_take (i := 35) (oi := { dst := some 51, op := Op.load 39 (Operand.tmp 3), type := 39, pos := "law.go:151", after := #[{ on := 32, ground := Ground.guard }], guard := some (32, true) }) (v := ?_) rfl (by kernel_rfl) (by kernel_rfl) (by kernel_rfl) (fun _ _ _ h => h) (Or.inl ⟨by kernel_rfl, ?_⟩) (by assumption) ?_
    rotate_left 1
    · intro w hSw
      (try dsimp only at hSw)
      go_simp
      all_goals (with_reducible rfl)
    try (conv => arg 8; simp only [Act.put, List.setIfInBounds_toArray, List.set_cons_zero, List.set_cons_succ])
    refine wpAnyH_ready (rs := [34]) (by kernel_rfl) (by simp) ?_
    refine AllReadyH.cons (o := { dst := some 50, op := Op.call { callee := Callee.value (Operand.func 24), args := #[Operand.tmp 49], argTypes := #[39] }, type := 3, pos := "law.go:151", after := #[{ on := 33, ground := Ground.data }, { on := 32, ground := Ground.chain }, { on := 32, ground := Ground.guard }], guard := some (32, true) }) rfl (fun K hK => ?_) AllReadyH.nil
    refine want (by kernel_rfl) ?_
    refine opCall (ent_Length _ _ _ _ _ _ _ _ _) ?_
    refine (LX.out _).mono ?_
    rintro e y34 ⟨rfl, hb⟩
    replace hk := kc hb hk
    clear hb hHeld
    refine hK.out _ _ (KP.out _ hk) (fun hHeld => ?_)
    clear hK K
    try (conv => arg 8; simp only [Act.put, List.setIfInBounds_toArray, List.set_cons_zero, List.set_cons_succ])
    refine wpAnyH_ready (rs := [36]) (by kernel_rfl) (by simp) ?_
    refine AllReadyH.cons (o := { dst := some 52, op := Op.call { callee := Callee.value (Operand.func 24), args := #[Operand.tmp 51], argTypes := #[39] }, type := 3, pos := "law.go:151", after := #[{ on := 35, ground := Ground.data }, { on := 34, ground := Ground.chain }, { on := 32, ground := Ground.guard }], guard := some (32, true) }) rfl (fun K hK => ?_) AllReadyH.nil
    refine want (by kernel_rfl) ?_
    refine opCall (ent_Length _ _ _ _ _ _ _ _ _) ?_
    refine (LA.out _).mono ?_
    rintro e y36 ⟨rfl, hb⟩
    replace hk := kc hb hk
    clear hb hHeld
    refine hK.out _ _ (KP.out _ hk) (fun hHeld => ?_)
    clear hK K
    try (conv => arg 8; simp only [Act.put, List.setIfInBounds_toArray, List.set_cons_zero, List.set_cons_succ])
    refine wpAnyH_take (i := 37) (oi := { dst := some 53, op := Op.binOp BinOp.leq 3 (Operand.tmp 50) (Operand.tmp 52) 3, type := 4, pos := "law.go:151", after := #[{ on := 34, ground := Ground.data }, { on := 36, ground := Ground.data }, { on := 32, ground := Ground.guard }], guard := some (32, true) }) (v := ?_) rfl (by kernel_rfl) (by kernel_rfl) (by kernel_rfl) (fun _ _ _ h => h) (Or.inl ⟨by kernel_rfl, ?_⟩) (by assumption) ?_
    rotate_left 1
    · intro w hSw
      (try dsimp only at hSw)
      go_simp
      all_goals (with_reducible rfl)
    try (conv => arg 8; simp only [Act.put, List.setIfInBounds_toArray, List.set_cons_zero, List.set_cons_succ])
    refine wpAnyH_take (i := 38) (oi := { dst := some 54, op := Op.pick (Operand.tmp 48) (Operand.tmp 53) (Operand.const (Value.bool false)), type := 4, pos := "law.go:151", after := #[{ on := 32, ground := Ground.data }, { on := 37, ground := Ground.data }], guard := none }) (v := ?_) rfl (by kernel_rfl) (by kernel_rfl) (by kernel_rfl) (fun _ _ _ h => h) (Or.inl ⟨by kernel_rfl, ?_⟩) (by assumption) ?_
    rotate_left 1
    · intro w hSw
      (try dsimp only at hSw)
      go_simp
      all_goals (with_reducible rfl)
    try (conv => arg 8; simp only [Act.put, List.setIfInBounds_toArray, List.set_cons_zero, List.set_cons_succ])
    refine wpAnyH_take (i := 39) (oi := { dst := some 55, op := Op.move (Operand.tmp 54), type := 4, pos := "law.go:151", after := #[{ on := 38, ground := Ground.data }, { on := 36, ground := Ground.chain }], guard := none }) (v := ?_) rfl (by kernel_rfl) (by kernel_rfl) (by kernel_rfl) (fun _ _ _ h => h) (Or.inl ⟨by kernel_rfl, ?_⟩) (by assumption) ?_
    rotate_left 1
    · intro w hSw
      (try dsimp only at hSw)
      go_simp
      all_goals (with_reducible rfl)
    try (conv => arg 8; simp only [Act.put, List.setIfInBounds_toArray, List.set_cons_zero, List.set_cons_succ])
    refine wpAnyH_take (i := 40) (oi := { dst := some 56, op := Op.load 39 (Operand.tmp 7), type := 39, pos := "law.go:151", after := #[{ on := 39, ground := Ground.guard }], guard := some (39, true) }) (v := ?_) rfl (by kernel_rfl) (by kernel_rfl) (by kernel_rfl) (fun _ _ _ h => h) (Or.inl ⟨by kernel_rfl, ?_⟩) (by assumption) ?_
    rotate_left 1
    · intro w hSw
      (try dsimp only at hSw)
      go_simp
      all_goals (with_reducible rfl)
    try (conv => arg 8; simp only [Act.put, List.setIfInBounds_toArray, List.set_cons_zero, List.set_cons_succ])
    refine wpAnyH_take (i := 42) (oi := { dst := some 58, op := Op.load 39 (Operand.tmp 4), type := 39, pos := "law.go:151", after := #[{ on := 39, ground := Ground.guard }], guard := some (39, true) }) (v := ?_) rfl (by kernel_rfl) (by kernel_rfl) (by kernel_rfl) (fun _ _ _ h => h) (Or.inl ⟨by kernel_rfl, ?_⟩) (by assumption) ?_
    rotate_left 1
    · intro w hSw
      (try dsimp only at hSw)
      go_simp
      all_goals (with_reducible rfl)
    try (conv => arg 8; simp only [Act.put, List.setIfInBounds_toArray, List.set_cons_zero, List.set_cons_succ])
    refine wpAnyH_ready (rs := [41]) (by kernel_rfl) (by simp) ?_
    refine AllReadyH.cons (o := { dst := some 57, op := Op.call { callee := Callee.value (Operand.func 24), args := #[Operand.tmp 56], argTypes := #[39] }, type := 3, pos := "law.go:151", after := #[{ on := 40, ground := Ground.data }, { on := 39, ground := Ground.chain }, { on := 39, ground := Ground.guard }], guard := some (39, true) }) rfl (fun K hK => ?_) AllReadyH.nil
    refine want (by kernel_rfl) ?_
    refine opCall (ent_Length _ _ _ _ _ _ _ _ _) ?_
    refine (LX.out _).mono ?_
    rintro e y41 ⟨rfl, hb⟩
    replace hk := kc hb hk
    clear hb hHeld
    refine hK.out _ _ (KP.out _ hk) (fun hHeld => ?_)
    clear hK K
    try (conv => arg 8; simp only [Act.put, List.setIfInBounds_toArray, List.set_cons_zero, List.set_cons_succ])
    refine wpAnyH_ready (rs := [43]) (by kernel_rfl) (by simp) ?_
    refine AllReadyH.cons (o := { dst := some 59, op := Op.call { callee := Callee.value (Operand.func 24), args := #[Operand.tmp 58], argTypes := #[39] }, type := 3, pos := "law.go:151", after := #[{ on := 42, ground := Ground.data }, { on := 41, ground := Ground.chain }, { on := 39, ground := Ground.guard }], guard := some (39, true) }) rfl (fun K hK => ?_) AllReadyH.nil
    refine want (by kernel_rfl) ?_
    refine opCall (ent_Length _ _ _ _ _ _ _ _ _) ?_
    refine (LB.out _).mono ?_
    rintro e y43 ⟨rfl, hb⟩
    replace hk := kc hb hk
    clear hb hHeld
    refine hK.out _ _ (KP.out _ hk) (fun hHeld => ?_)
    clear hK K
    try (conv => arg 8; simp only [Act.put, List.setIfInBounds_toArray, List.set_cons_zero, List.set_cons_succ])
    refine wpAnyH_take (i := 44) (oi := { dst := some 60, op := Op.binOp BinOp.leq 3 (Operand.tmp 57) (Operand.tmp 59) 3, type := 4, pos := "law.go:151", after := #[{ on := 41, ground := Ground.data }, { on := 43, ground := Ground.data }, { on := 39, ground := Ground.guard }], guard := some (39, true) }) (v := ?_) rfl (by kernel_rfl) (by kernel_rfl) (by kernel_rfl) (fun _ _ _ h => h) (Or.inl ⟨by kernel_rfl, ?_⟩) (by assumption) ?_
    rotate_left 1
    · intro w hSw
      (try dsimp only at hSw)
      go_simp
      all_goals (with_reducible rfl)
    try (conv => arg 8; simp only [Act.put, List.setIfInBounds_toArray, List.set_cons_zero, List.set_cons_succ])
    refine wpAnyH_take (i := 45) (oi := { dst := some 61, op := Op.pick (Operand.tmp 55) (Operand.tmp 60) (Operand.const (Value.bool false)), type := 4, pos := "law.go:151", after := #[{ on := 39, ground := Ground.data }, { on := 44, ground := Ground.data }], guard := none }) (v := ?_) rfl (by kernel_rfl) (by kernel_rfl) (by kernel_rfl) (fun _ _ _ h => h) (Or.inl ⟨by kernel_rfl, ?_⟩) (by assumption) ?_
    rotate_left 1
    · intro w hSw
      (try dsimp only at hSw)
      go_simp
      all_goals (with_reducible rfl)
    try (conv => arg 8; simp only [Act.put, List.setIfInBounds_toArray, List.set_cons_zero, List.set_cons_succ])
    refine wpAnyH_take (i := 46) (oi := { dst := some 6, op := Op.assign (Operand.tmp 61), type := 4, pos := "law.go:151", after := #[{ on := 45, ground := Ground.data }, { on := 43, ground := Ground.chain }, { on := 0, ground := Ground.phase }, { on := 1, ground := Ground.phase }, { on := 2, ground := Ground.phase }, { on := 3, ground := Ground.phase }, { on := 4, ground := Ground.phase }, { on := 5, ground := Ground.phase }, { on := 6, ground := Ground.phase }, { on := 7, ground := Ground.phase }, { on := 8, ground := Ground.phase }, { on := 9, ground := Ground.phase }, { on := 10, ground := Ground.phase }, { on := 11, ground := Ground.phase }, { on := 12, ground := Ground.phase }, { on := 13, ground := Ground.phase }, { on := 14, ground := Ground.phase }, { on := 15, ground := Ground.phase }, { on := 16, ground := Ground.phase }, { on := 17, ground := Ground.phase }, { on := 18, ground := Ground.phase }, { on := 19, ground := Ground.phase }, { on := 20, ground := Ground.phase }, { on := 21, ground := Ground.phase }, { on := 22, ground := Ground.phase }, { on := 23, ground := Ground.phase }, { on := 24, ground := Ground.phase }, { on := 25, ground := Ground.phase }, { on := 26, ground := Ground.phase }, { on := 27, ground := Ground.phase }, { on := 28, ground := Ground.phase }, { on := 29, ground := Ground.phase }, { on := 30, ground := Ground.phase }, { on := 31, ground := Ground.phase }, { on := 32, ground := Ground.phase }, { on := 33, ground := Ground.phase }, { on := 34, ground := Ground.phase }, { on := 35, ground := Ground.phase }, { on := 36, ground := Ground.phase }, { on := 37, ground := Ground.phase }, { on := 38, ground := Ground.phase }, { on := 39, ground := Ground.phase }, { on := 40, ground := Ground.phase }, { on := 41, ground := Ground.phase }, { on := 42, ground := Ground.phase }, { on := 43, ground := Ground.phase }, { on := 44, ground := Ground.phase }, { on := 45, ground := Ground.phase }], guard := none }) (v := ?_) rfl (by kernel_rfl) (by kernel_rfl) (by kernel_rfl) (fun _ _ _ h => h) (Or.inl ⟨by kernel_rfl, ?_⟩) (by assumption) ?_
    rotate_left 1
    · intro w hSw
      (try dsimp only at hSw)
      go_simp
      all_goals (with_reducible rfl)
    try (conv => arg 8; simp only [Act.put, List.setIfInBounds_toArray, List.set_cons_zero, List.set_cons_succ])
    refine wpAnyH_done (by kernel_rfl) ?_ _
    try simp only [Act.put, List.getElem_toArray, List.getElem_cons_succ, List.getElem_cons_zero, List.setIfInBounds_toArray, List.set_cons_zero, List.set_cons_succ]
    go_wp2
    go_ret
    exact ⟨rfl, hb5.trans (hk.mono hb5.size)⟩
  refine wpAnyH_via 28 #[true, true, true, true, true, true, true, true, true, true, true, true, true, true, true, true, true, true, true, false, false, false, false, false, false, false, false, false, false, false, false, false, false, false, false, false, false, false, false, false, false, false, false, false, false, false, false] (fun a w' => (∃ s0 s1 s5 s6 s8 s9 s10 s11 s12 s13 s14 s15 s16 s17 s18 s19 s20 s22 s23 s24 s25 s26 s27 s28 s29 s30 s31 s32 s33 s35 s36 s37 s38 s39 s40 s41 s42 s43 s44 s45 s46 s47 s48 s49 s50 s51 s52 s53 s54 s55 s56 s57 s58 s59 s60 s61 : Value, a = ⟨#[s0, s1, .slice p D.length cp, .pointer (some ⟨w.heap.size, 0, none⟩), .pointer (some ⟨w.heap.size + 1, 0, none⟩), s5, s6, .pointer (some ⟨w2.heap.size, 0, none⟩), s8, s9, s10, s11, s12, s13, s14, s15, s16, s17, s18, s19, s20, .bool true, s22, s23, s24, s25, s26, s27, s28, s29, s30, s31, s32, s33, .bool true, s35, s36, s37, s38, s39, s40, s41, s42, s43, s44, s45, s46, s47, s48, s49, s50, s51, s52, s53, s54, s55, s56, s57, s58, s59, s60, s61], []⟩) ∧ Below W4.heap.size W4 w') ?_ (fun J1 => ?_)
  · as_aux_lemma =>
    rintro a5 y ⟨⟨s0, s1, s5, s6, s8, s9, s10, s11, s12, s13, s14, s15, s16, s17, s18, s19, s20, s22, s23, s24, s25, s26, s27, s28, s29, s30, s31, s32, s33, s35, s36, s37, s38, s39, s40, s41, s42, s43, s44, s45, s46, s47, s48, s49, s50, s51, s52, s53, s54, s55, s56, s57, s58, s59, s60, s61, rfl⟩, hk⟩
    have hHeld := KP.out _ hk
    refine wpAnyH_take (i := 19) (oi := { dst := some 35, op := Op.pick (Operand.tmp 21) (Operand.tmp 34) (Operand.const (Value.bool false)), type := 4, pos := "law.go:151", after := #[{ on := 5, ground := Ground.data }, { on := 18, ground := Ground.data }], guard := none }) (v := ?_) rfl (by kernel_rfl) (by kernel_rfl) (by kernel_rfl) (fun _ _ _ h => h) (Or.inl ⟨by kernel_rfl, ?_⟩) (by assumption) ?_
    rotate_left 1
    · intro w hSw
      (try dsimp only at hSw)
      go_simp
      all_goals (with_reducible rfl)
    try (conv => arg 8; simp only [Act.put, List.setIfInBounds_toArray, List.set_cons_zero, List.set_cons_succ])
    refine wpAnyH_take (i := 20) (oi := { dst := some 36, op := Op.move (Operand.tmp 35), type := 4, pos := "law.go:151", after := #[{ on := 19, ground := Ground.data }, { on := 18, ground := Ground.chain }], guard := none }) (v := ?_) rfl (by kernel_rfl) (by kernel_rfl) (by kernel_rfl) (fun _ _ _ h => h) (Or.inl ⟨by kernel_rfl, ?_⟩) (by assumption) ?_
    rotate_left 1
    · intro w hSw
      (try dsimp only at hSw)
      go_simp
      all_goals (with_reducible rfl)
    try (conv => arg 8; simp only [Act.put, List.setIfInBounds_toArray, List.set_cons_zero, List.set_cons_succ])
    refine wpAnyH_take (i := 21) (oi := { dst := some 37, op := Op.load 39 (Operand.tmp 3), type := 39, pos := "law.go:151", after := #[{ on := 20, ground := Ground.guard }], guard := some (20, true) }) (v := ?_) rfl (by kernel_rfl) (by kernel_rfl) (by kernel_rfl) (fun _ _ _ h => h) (Or.inl ⟨by kernel_rfl, ?_⟩) (by assumption) ?_
    rotate_left 1
    · intro w hSw
      (try dsimp only at hSw)
      go_simp
      all_goals (with_reducible rfl)
    try (conv => arg 8; simp only [Act.put, List.setIfInBounds_toArray, List.set_cons_zero, List.set_cons_succ])
    refine wpAnyH_take (i := 22) (oi := { dst := some 38, op := Op.move (Operand.tmp 2), type := 41, pos := "law.go:151", after := #[{ on := 20, ground := Ground.guard }], guard := some (20, true) }) (v := ?_) rfl (by kernel_rfl) (by kernel_rfl) (by kernel_rfl) (fun _ _ _ h => h) (Or.inl ⟨by kernel_rfl, ?_⟩) (by assumption) ?_
    rotate_left 1
    · intro w hSw
      (try dsimp only at hSw)
      go_simp
      all_goals (with_reducible rfl)
    try (conv => arg 8; simp only [Act.put, List.setIfInBounds_toArray, List.set_cons_zero, List.set_cons_succ])
    refine wpAnyH_take (i := 26) (oi := { dst := some 42, op := Op.load 39 (Operand.tmp 3), type := 39, pos := "law.go:151", after := #[{ on := 20, ground := Ground.guard }], guard := some (20, true) }) (v := ?_) rfl (by kernel_rfl) (by kernel_rfl) (by kernel_rfl) (fun _ _ _ h => h) (Or.inl ⟨by kernel_rfl, ?_⟩) (by assumption) ?_
    rotate_left 1
    · intro w hSw
      (try dsimp only at hSw)
      go_simp
      all_goals (with_reducible rfl)
    try (conv => arg 8; simp only [Act.put, List.setIfInBounds_toArray, List.set_cons_zero, List.set_cons_succ])
    refine wpAnyH_ready (rs := [23,27]) (by kernel_rfl) (by simp) ?_
    refine AllReadyH.cons (o := { dst := some 39, op := Op.call { callee := Callee.value (Operand.func 28), args := #[Operand.tmp 37, Operand.tmp 38], argTypes := #[39, 41] }, type := 22, pos := "law.go:151", after := #[{ on := 21, ground := Ground.data }, { on := 22, ground := Ground.data }, { on := 20, ground := Ground.chain }, { on := 20, ground := Ground.guard }], guard := some (20, true) }) rfl (fun K hK => ?_) ?_
    · as_aux_lemma =>
      refine want (by kernel_rfl) ?_
      refine opCall (ent_Pieces _ _ _ _ _ _ _ _ _ _) ?_
      refine (HP.out _ (HD4.out.below hk (Nat.le_refl _))).mono ?_
      rintro e y23 ⟨K23, q23, c23, rfl, k1, k2, kl, ks, hb⟩
      replace hk := kc hb hk
      clear hb hHeld
      have H23 : Hid ((∀ d, hasB K23 d = hasB [(a, b)] d) ∧ (∀ s ∈ K23, in64 s.1 ∧ in64 s.2) ∧ K23.length ≤ 61) := Lib.hid ⟨pieces_has k1 k2, pieces64 k1 k2 H64A.out.1 H64A.out.2, by omega⟩
      have S23 := Lib.hid ks
      clear k1 k2 kl ks
      refine hK.out _ _ (KP.out _ hk) (fun hHeld => ?_)
      clear hK K
      try (conv => arg 8; simp only [Act.put, List.setIfInBounds_toArray, List.set_cons_zero, List.set_cons_succ])
      refine wpAnyH_ready (rs := [24,27]) (by kernel_rfl) (by simp) ?_
      refine AllReadyH.cons (o := { dst := some 40, op := Op.call { callee := Callee.value (Operand.func 12), args := #[Operand.tmp 39], argTypes := #[22] }, type := 26, pos := "law.go:151", after := #[{ on := 23, ground := Ground.data }, { on := 23, ground := Ground.chain }, { on := 20, ground := Ground.guard }], guard := some (20, true) }) rfl (fun K hK => ?_) ?_
      · as_aux_lemma =>
        refine want (by kernel_rfl) ?_
        refine opCall (ent_Of _ _ _ _ _ _ _ _ _) ?_
        refine (Of_set _ _ K23 _ (by have := H23.out.2.2; omega) H23.out.2.1 S23.out).mono ?_
        rintro e y24 ⟨v24, rfl, hs, hb, -⟩
        clear S23
        replace hk := kc hb hk
        clear hb hHeld
        have I24 := Lib.hid hs
        clear hs
        refine hK.out _ _ (KP.out _ hk) (fun hHeld => ?_)
        clear hK K
        try (conv => arg 8; simp only [Act.put, List.setIfInBounds_toArray, List.set_cons_zero, List.set_cons_succ])
        refine wpAnyH_ready (rs := [25,27]) (by kernel_rfl) (by simp) ?_
        refine AllReadyH.cons (o := { dst := some 41, op := Op.call { callee := Callee.value (Operand.func 15), args := #[Operand.tmp 40], argTypes := #[26] }, type := 22, pos := "law.go:151", after := #[{ on := 24, ground := Ground.data }, { on := 24, ground := Ground.chain }, { on := 20, ground := Ground.guard }], guard := some (20, true) }) rfl (fun K hK => ?_) ?_
        · as_aux_lemma =>
          refine want (by kernel_rfl) ?_
          refine opCall (ent_All _ _ _ _ _ _ _ _ _) ?_
          refine (AllK I24.out (by have := H23.out.2.2; omega)).mono ?_
          rintro e y25 ⟨K25, q25, c25, rfl, kx, mx, -, lx, sx, hb⟩
          clear I24
          replace hk := kc hb hk
          clear hb hHeld
          have H25 : Hid (Canon K25 ∧ (∀ d, Mem K25 d ↔ hasB K23 d = true) ∧ K25.length ≤ (2 * K23.length)) := Lib.hid ⟨kx, mx, lx⟩
          have S25 := Lib.hid sx
          clear kx mx lx sx
          refine hK.out _ _ (KP.out _ hk) (fun hHeld => ?_)
          clear hK K
          try (conv => arg 8; simp only [Act.put, List.setIfInBounds_toArray, List.set_cons_zero, List.set_cons_succ])
          refine wpAnyH_ready (rs := [27]) (by kernel_rfl) (by simp) ?_
          refine AllReadyH.cons (o := { dst := some 43, op := Op.buildSlice 22 1 #[(0, Operand.tmp 42)], type := 22, pos := "law.go:151", after := #[{ on := 26, ground := Ground.data }, { on := 20, ground := Ground.guard }], guard := some (20, true) }) rfl (fun K hK => ?_) AllReadyH.nil
          refine want (by kernel_rfl) ?_
          refine opOne 43 (.tmp 42) (a) (b) rfl rfl rfl ?_
          intro g27 y27 F27 hb
          replace S25 := Lib.hid (SpansIn.below S25.out hb (Nat.le_refl _))
          replace hk := kc hb hk
          clear hb hHeld
          refine hK.out _ _ (KP.out _ hk) (fun hHeld => ?_)
          clear hK K
          try (conv => arg 8; simp only [Act.put, List.setIfInBounds_toArray, List.set_cons_zero, List.set_cons_succ])
          refine wpAnyH_ready (rs := [28]) (by kernel_rfl) (by simp) ?_
          refine AllReadyH.cons (o := { dst := some 44, op := Op.call { callee := Callee.value (Operand.func 12), args := #[Operand.tmp 43], argTypes := #[22] }, type := 26, pos := "law.go:151", after := #[{ on := 27, ground := Ground.data }, { on := 25, ground := Ground.chain }, { on := 20, ground := Ground.guard }], guard := some (20, true) }) rfl (fun K hK => ?_) AllReadyH.nil
          refine want (by kernel_rfl) ?_
          refine opCall (ent_Of _ _ _ _ _ _ _ _ _) ?_
          refine (OfOne _ _ (a) (b) _ H64A.out.1 H64A.out.2 F27.out).mono ?_
          rintro e y28 ⟨v28, rfl, hs, hb, -⟩
          clear F27
          replace S25 := Lib.hid (SpansIn.below S25.out hb (Nat.le_refl _))
          replace hk := kc hb hk
          clear hb hHeld
          have I28 := Lib.hid hs
          clear hs
          refine hK.out _ _ (KP.out _ hk) (fun hHeld => ?_)
          clear hK K
          try (conv => arg 8; simp only [Act.put, List.setIfInBounds_toArray, List.set_cons_zero, List.set_cons_succ])
          refine wpAnyH_ready (rs := [29]) (by kernel_rfl) (by simp) ?_
          refine AllReadyH.cons (o := { dst := some 45, op := Op.call { callee := Callee.value (Operand.func 15), args := #[Operand.tmp 44], argTypes := #[26] }, type := 22, pos := "law.go:151", after := #[{ on := 28, ground := Ground.data }, { on := 28, ground := Ground.chain }, { on := 20, ground := Ground.guard }], guard := some (20, true) }) rfl (fun K hK => ?_) AllReadyH.nil
          refine want (by kernel_rfl) ?_
          refine opCall (ent_All _ _ _ _ _ _ _ _ _) ?_
          refine (AllK I28.out (by omega)).mono ?_
          rintro e y29 ⟨K29, q29, c29, rfl, kx, mx, -, lx, sx, hb⟩
          clear I28
          replace S25 := Lib.hid (SpansIn.below S25.out hb (Nat.le_refl _))
          replace hk := kc hb hk
          clear hb hHeld
          have H29 : Hid (Canon K29 ∧ (∀ d, Mem K29 d ↔ hasB [(a, b)] d = true) ∧ K29.length ≤ 2) := Lib.hid ⟨kx, mx, lx⟩
          have S29 := Lib.hid sx
          clear kx mx lx sx
          refine hK.out _ _ (KP.out _ hk) (fun hHeld => ?_)
          clear hK K
          try (conv => arg 8; simp only [Act.put, List.setIfInBounds_toArray, List.set_cons_zero, List.set_cons_succ])
          refine wpAnyH_ready (rs := [30]) (by kernel_rfl) (by simp) ?_
          refine AllReadyH.cons (o := { dst := some 46, op := Op.call { callee := Callee.value (Operand.func 14), args := #[Operand.tmp 41, Operand.tmp 45], argTypes := #[22, 22] }, type := 4, pos := "law.go:151", after := #[{ on := 25, ground := Ground.data }, { on := 29, ground := Ground.data }, { on := 29, ground := Ground.chain }, { on := 20, ground := Ground.guard }], guard := some (20, true) }) rfl (fun K hK => ?_) AllReadyH.nil
          refine want (by kernel_rfl) ?_
          refine opCall (ent_Same _ _ _ _ _ _ _ _ _ _) ?_
          refine (SameK S25.out S29.out (by have := H25.out.2.2; have := H23.out.2.2; omega) (canon_eq H25.out.1 H29.out.1 H25.out.2.1 H29.out.2.1 (fun d => H23.out.1 d))).mono ?_
          rintro e y30 ⟨rfl, hb⟩
          clear S25 S29
          clear H25 H29
          replace hk := kc hb hk
          clear hb hHeld
          refine hK.out _ _ (KP.out _ hk) (fun hHeld => ?_)
          clear hK K
          try (conv => arg 8; simp only [Act.put, List.setIfInBounds_toArray, List.set_cons_zero, List.set_cons_succ])
          exact J2.out _ _ _ _ (by kernel_rfl) (by kernel_rfl) ⟨⟨_, _, _, _, _, _, _, _, _, _, _, _, _, _, _, _, _, _, _, _, _, _, _, _, _, _, _, _, _, _, _, _, _, _, _, _, _, _, _, _, _, _, _, _, _, _, _, _, _, _, _, _, _, _, _, _, rfl⟩, hk⟩
        refine AllReadyH.cons (o := { dst := some 43, op := Op.buildSlice 22 1 #[(0, Operand.tmp 42)], type := 22, pos := "law.go:151", after := #[{ on := 26, ground := Ground.data }, { on := 20, ground := Ground.guard }], guard := some (20, true) }) rfl (fun K hK => ?_) AllReadyH.nil
        refine want (by kernel_rfl) ?_
        refine opOne 43 (.tmp 42) (a) (b) rfl rfl rfl ?_
        intro g27 y27 F27 hb
        replace I24 := Lib.hid (IsSet.below I24.out hb (Nat.le_refl _))
        replace hk := kc hb hk
        clear hb hHeld
        refine hK.out _ _ (KP.out _ hk) (fun hHeld => ?_)
        clear hK K
        try (conv => arg 8; simp only [Act.put, List.setIfInBounds_toArray, List.set_cons_zero, List.set_cons_succ])
        refine wpAnyH_ready (rs := [25]) (by kernel_rfl) (by simp) ?_
        refine AllReadyH.cons (o := { dst := some 41, op := Op.call { callee := Callee.value (Operand.func 15), args := #[Operand.tmp 40], argTypes := #[26] }, type := 22, pos := "law.go:151", after := #[{ on := 24, ground := Ground.data }, { on := 24, ground := Ground.chain }, { on := 20, ground := Ground.guard }], guard := some (20, true) }) rfl (fun K hK => ?_) AllReadyH.nil
        refine want (by kernel_rfl) ?_
        refine opCall (ent_All _ _ _ _ _ _ _ _ _) ?_
        refine (AllK I24.out (by have := H23.out.2.2; omega)).mono ?_
        rintro e y25 ⟨K25, q25, c25, rfl, kx, mx, -, lx, sx, hb⟩
        clear I24
        replace F27 := Lib.hid (SpansIn.below F27.out hb (Nat.le_refl _))
        replace hk := kc hb hk
        clear hb hHeld
        have H25 : Hid (Canon K25 ∧ (∀ d, Mem K25 d ↔ hasB K23 d = true) ∧ K25.length ≤ (2 * K23.length)) := Lib.hid ⟨kx, mx, lx⟩
        have S25 := Lib.hid sx
        clear kx mx lx sx
        refine hK.out _ _ (KP.out _ hk) (fun hHeld => ?_)
        clear hK K
        try (conv => arg 8; simp only [Act.put, List.setIfInBounds_toArray, List.set_cons_zero, List.set_cons_succ])
        refine wpAnyH_ready (rs := [28]) (by kernel_rfl) (by simp) ?_
        refine AllReadyH.cons (o := { dst := some 44, op := Op.call { callee := Callee.value (Operand.func 12), args := #[Operand.tmp 43], argTypes := #[22] }, type := 26, pos := "law.go:151", after := #[{ on := 27, ground := Ground.data }, { on := 25, ground := Ground.chain }, { on := 20, ground := Ground.guard }], guard := some (20, true) }) rfl (fun K hK => ?_) AllReadyH.nil
        refine want (by kernel_rfl) ?_
        refine opCall (ent_Of _ _ _ _ _ _ _ _ _) ?_
        refine (OfOne _ _ (a) (b) _ H64A.out.1 H64A.out.2 F27.out).mono ?_
        rintro e y28 ⟨v28, rfl, hs, hb, -⟩
        clear F27
        replace S25 := Lib.hid (SpansIn.below S25.out hb (Nat.le_refl _))
        replace hk := kc hb hk
        clear hb hHeld
        have I28 := Lib.hid hs
        clear hs
        refine hK.out _ _ (KP.out _ hk) (fun hHeld => ?_)
        clear hK K
        try (conv => arg 8; simp only [Act.put, List.setIfInBounds_toArray, List.set_cons_zero, List.set_cons_succ])
        refine wpAnyH_ready (rs := [29]) (by kernel_rfl) (by simp) ?_
        refine AllReadyH.cons (o := { dst := some 45, op := Op.call { callee := Callee.value (Operand.func 15), args := #[Operand.tmp 44], argTypes := #[26] }, type := 22, pos := "law.go:151", after := #[{ on := 28, ground := Ground.data }, { on := 28, ground := Ground.chain }, { on := 20, ground := Ground.guard }], guard := some (20, true) }) rfl (fun K hK => ?_) AllReadyH.nil
        refine want (by kernel_rfl) ?_
        refine opCall (ent_All _ _ _ _ _ _ _ _ _) ?_
        refine (AllK I28.out (by omega)).mono ?_
        rintro e y29 ⟨K29, q29, c29, rfl, kx, mx, -, lx, sx, hb⟩
        clear I28
        replace S25 := Lib.hid (SpansIn.below S25.out hb (Nat.le_refl _))
        replace hk := kc hb hk
        clear hb hHeld
        have H29 : Hid (Canon K29 ∧ (∀ d, Mem K29 d ↔ hasB [(a, b)] d = true) ∧ K29.length ≤ 2) := Lib.hid ⟨kx, mx, lx⟩
        have S29 := Lib.hid sx
        clear kx mx lx sx
        refine hK.out _ _ (KP.out _ hk) (fun hHeld => ?_)
        clear hK K
        try (conv => arg 8; simp only [Act.put, List.setIfInBounds_toArray, List.set_cons_zero, List.set_cons_succ])
        refine wpAnyH_ready (rs := [30]) (by kernel_rfl) (by simp) ?_
        refine AllReadyH.cons (o := { dst := some 46, op := Op.call { callee := Callee.value (Operand.func 14), args := #[Operand.tmp 41, Operand.tmp 45], argTypes := #[22, 22] }, type := 4, pos := "law.go:151", after := #[{ on := 25, ground := Ground.data }, { on := 29, ground := Ground.data }, { on := 29, ground := Ground.chain }, { on := 20, ground := Ground.guard }], guard := some (20, true) }) rfl (fun K hK => ?_) AllReadyH.nil
        refine want (by kernel_rfl) ?_
        refine opCall (ent_Same _ _ _ _ _ _ _ _ _ _) ?_
        refine (SameK S25.out S29.out (by have := H25.out.2.2; have := H23.out.2.2; omega) (canon_eq H25.out.1 H29.out.1 H25.out.2.1 H29.out.2.1 (fun d => H23.out.1 d))).mono ?_
        rintro e y30 ⟨rfl, hb⟩
        clear S25 S29
        clear H25 H29
        replace hk := kc hb hk
        clear hb hHeld
        refine hK.out _ _ (KP.out _ hk) (fun hHeld => ?_)
        clear hK K
        try (conv => arg 8; simp only [Act.put, List.setIfInBounds_toArray, List.set_cons_zero, List.set_cons_succ])
        exact J2.out _ _ _ _ (by kernel_rfl) (by kernel_rfl) ⟨⟨_, _, _, _, _, _, _, _, _, _, _, _, _, _, _, _, _, _, _, _, _, _, _, _, _, _, _, _, _, _, _, _, _, _, _, _, _, _, _, _, _, _, _, _, _, _, _, _, _, _, _, _, _, _, _, _, rfl⟩, hk⟩
      refine AllReadyH.cons (o := { dst := some 43, op := Op.buildSlice 22 1 #[(0, Operand.tmp 42)], type := 22, pos := "law.go:151", after := #[{ on := 26, ground := Ground.data }, { on := 20, ground := Ground.guard }], guard := some (20, true) }) rfl (fun K hK => ?_) AllReadyH.nil
      refine want (by kernel_rfl) ?_
      refine opOne 43 (.tmp 42) (a) (b) rfl rfl rfl ?_
      intro g27 y27 F27 hb
      replace S23 := Lib.hid (SpansIn.below S23.out hb (Nat.le_refl _))
      replace hk := kc hb hk
      clear hb hHeld
      refine hK.out _ _ (KP.out _ hk) (fun hHeld => ?_)
      clear hK K
      try (conv => arg 8; simp only [Act.put, List.setIfInBounds_toArray, List.set_cons_zero, List.set_cons_succ])
      refine wpAnyH_ready (rs := [24]) (by kernel_rfl) (by simp) ?_
      refine AllReadyH.cons (o := { dst := some 40, op := Op.call { callee := Callee.value (Operand.func 12), args := #[Operand.tmp 39], argTypes := #[22] }, type := 26, pos := "law.go:151", after := #[{ on := 23, ground := Ground.data }, { on := 23, ground := Ground.chain }, { on := 20, ground := Ground.guard }], guard := some (20, true) }) rfl (fun K hK => ?_) AllReadyH.nil
      refine want (by kernel_rfl) ?_
      refine opCall (ent_Of _ _ _ _ _ _ _ _ _) ?_
      refine (Of_set _ _ K23 _ (by have := H23.out.2.2; omega) H23.out.2.1 S23.out).mono ?_
      rintro e y24 ⟨v24, rfl, hs, hb, -⟩
      clear S23
      replace F27 := Lib.hid (SpansIn.below F27.out hb (Nat.le_refl _))
      replace hk := kc hb hk
      clear hb hHeld
      have I24 := Lib.hid hs
      clear hs
      refine hK.out _ _ (KP.out _ hk) (fun hHeld => ?_)
      clear hK K
      try (conv => arg 8; simp only [Act.put, List.setIfInBounds_toArray, List.set_cons_zero, List.set_cons_succ])
      refine wpAnyH_ready (rs := [25]) (by kernel_rfl) (by simp) ?_
      refine AllReadyH.cons (o := { dst := some 41, op := Op.call { callee := Callee.value (Operand.func 15), args := #[Operand.tmp 40], argTypes := #[26] }, type := 22, pos := "law.go:151", after := #[{ on := 24, ground := Ground.data }, { on := 24, ground := Ground.chain }, { on := 20, ground := Ground.guard }], guard := some (20, true) }) rfl (fun K hK => ?_) AllReadyH.nil
      refine want (by kernel_rfl) ?_
      refine opCall (ent_All _ _ _ _ _ _ _ _ _) ?_
      refine (AllK I24.out (by have := H23.out.2.2; omega)).mono ?_
      rintro e y25 ⟨K25, q25, c25, rfl, kx, mx, -, lx, sx, hb⟩
      clear I24
      replace F27 := Lib.hid (SpansIn.below F27.out hb (Nat.le_refl _))
      replace hk := kc hb hk
      clear hb hHeld
      have H25 : Hid (Canon K25 ∧ (∀ d, Mem K25 d ↔ hasB K23 d = true) ∧ K25.length ≤ (2 * K23.length)) := Lib.hid ⟨kx, mx, lx⟩
      have S25 := Lib.hid sx
      clear kx mx lx sx
      refine hK.out _ _ (KP.out _ hk) (fun hHeld => ?_)
      clear hK K
      try (conv => arg 8; simp only [Act.put, List.setIfInBounds_toArray, List.set_cons_zero, List.set_cons_succ])
      refine wpAnyH_ready (rs := [28]) (by kernel_rfl) (by simp) ?_
      refine AllReadyH.cons (o := { dst := some 44, op := Op.call { callee := Callee.value (Operand.func 12), args := #[Operand.tmp 43], argTypes := #[22] }, type := 26, pos := "law.go:151", after := #[{ on := 27, ground := Ground.data }, { on := 25, ground := Ground.chain }, { on := 20, ground := Ground.guard }], guard := some (20, true) }) rfl (fun K hK => ?_) AllReadyH.nil
      refine want (by kernel_rfl) ?_
      refine opCall (ent_Of _ _ _ _ _ _ _ _ _) ?_
      refine (OfOne _ _ (a) (b) _ H64A.out.1 H64A.out.2 F27.out).mono ?_
      rintro e y28 ⟨v28, rfl, hs, hb, -⟩
      clear F27
      replace S25 := Lib.hid (SpansIn.below S25.out hb (Nat.le_refl _))
      replace hk := kc hb hk
      clear hb hHeld
      have I28 := Lib.hid hs
      clear hs
      refine hK.out _ _ (KP.out _ hk) (fun hHeld => ?_)
      clear hK K
      try (conv => arg 8; simp only [Act.put, List.setIfInBounds_toArray, List.set_cons_zero, List.set_cons_succ])
      refine wpAnyH_ready (rs := [29]) (by kernel_rfl) (by simp) ?_
      refine AllReadyH.cons (o := { dst := some 45, op := Op.call { callee := Callee.value (Operand.func 15), args := #[Operand.tmp 44], argTypes := #[26] }, type := 22, pos := "law.go:151", after := #[{ on := 28, ground := Ground.data }, { on := 28, ground := Ground.chain }, { on := 20, ground := Ground.guard }], guard := some (20, true) }) rfl (fun K hK => ?_) AllReadyH.nil
      refine want (by kernel_rfl) ?_
      refine opCall (ent_All _ _ _ _ _ _ _ _ _) ?_
      refine (AllK I28.out (by omega)).mono ?_
      rintro e y29 ⟨K29, q29, c29, rfl, kx, mx, -, lx, sx, hb⟩
      clear I28
      replace S25 := Lib.hid (SpansIn.below S25.out hb (Nat.le_refl _))
      replace hk := kc hb hk
      clear hb hHeld
      have H29 : Hid (Canon K29 ∧ (∀ d, Mem K29 d ↔ hasB [(a, b)] d = true) ∧ K29.length ≤ 2) := Lib.hid ⟨kx, mx, lx⟩
      have S29 := Lib.hid sx
      clear kx mx lx sx
      refine hK.out _ _ (KP.out _ hk) (fun hHeld => ?_)
      clear hK K
      try (conv => arg 8; simp only [Act.put, List.setIfInBounds_toArray, List.set_cons_zero, List.set_cons_succ])
      refine wpAnyH_ready (rs := [30]) (by kernel_rfl) (by simp) ?_
      refine AllReadyH.cons (o := { dst := some 46, op := Op.call { callee := Callee.value (Operand.func 14), args := #[Operand.tmp 41, Operand.tmp 45], argTypes := #[22, 22] }, type := 4, pos := "law.go:151", after := #[{ on := 25, ground := Ground.data }, { on := 29, ground := Ground.data }, { on := 29, ground := Ground.chain }, { on := 20, ground := Ground.guard }], guard := some (20, true) }) rfl (fun K hK => ?_) AllReadyH.nil
      refine want (by kernel_rfl) ?_
      refine opCall (ent_Same _ _ _ _ _ _ _ _ _ _) ?_
      refine (SameK S25.out S29.out (by have := H25.out.2.2; have := H23.out.2.2; omega) (canon_eq H25.out.1 H29.out.1 H25.out.2.1 H29.out.2.1 (fun d => H23.out.1 d))).mono ?_
      rintro e y30 ⟨rfl, hb⟩
      clear S25 S29
      clear H25 H29
      replace hk := kc hb hk
      clear hb hHeld
      refine hK.out _ _ (KP.out _ hk) (fun hHeld => ?_)
      clear hK K
      try (conv => arg 8; simp only [Act.put, List.setIfInBounds_toArray, List.set_cons_zero, List.set_cons_succ])
      exact J2.out _ _ _ _ (by kernel_rfl) (by kernel_rfl) ⟨⟨_, _, _, _, _, _, _, _, _, _, _, _, _, _, _, _, _, _, _, _, _, _, _, _, _, _, _, _, _, _, _, _, _, _, _, _, _, _, _, _, _, _, _, _, _, _, _, _, _, _, _, _, _, _, _, _, rfl⟩, hk⟩
    refine AllReadyH.cons (o := { dst := some 43, op := Op.buildSlice 22 1 #[(0, Operand.tmp 42)], type := 22, pos := "law.go:151", after := #[{ on := 26, ground := Ground.data }, { on := 20, ground := Ground.guard }], guard := some (20, true) }) rfl (fun K hK => ?_) AllReadyH.nil
    refine want (by kernel_rfl) ?_
    refine opOne 43 (.tmp 42) (a) (b) rfl rfl rfl ?_
    intro g27 y27 F27 hb
    replace hk := kc hb hk
    clear hb hHeld
    refine hK.out _ _ (KP.out _ hk) (fun hHeld => ?_)
    clear hK K
    try (conv => arg 8; simp only [Act.put, List.setIfInBounds_toArray, List.set_cons_zero, List.set_cons_succ])
    refine wpAnyH_ready (rs := [23]) (by kernel_rfl) (by simp) ?_
    refine AllReadyH.cons (o := { dst := some 39, op := Op.call { callee := Callee.value (Operand.func 28), args := #[Operand.tmp 37, Operand.tmp 38], argTypes := #[39, 41] }, type := 22, pos := "law.go:151", after := #[{ on := 21, ground := Ground.data }, { on := 22, ground := Ground.data }, { on := 20, ground := Ground.chain }, { on := 20, ground := Ground.guard }], guard := some (20, true) }) rfl (fun K hK => ?_) AllReadyH.nil
    refine want (by kernel_rfl) ?_
    refine opCall (ent_Pieces _ _ _ _ _ _ _ _ _ _) ?_
    refine (HP.out _ (HD4.out.below hk (Nat.le_refl _))).mono ?_
    rintro e y23 ⟨K23, q23, c23, rfl, k1, k2, kl, ks, hb⟩
    replace F27 := Lib.hid (SpansIn.below F27.out hb (Nat.le_refl _))
    replace hk := kc hb hk
    clear hb hHeld
    have H23 : Hid ((∀ d, hasB K23 d = hasB [(a, b)] d) ∧ (∀ s ∈ K23, in64 s.1 ∧ in64 s.2) ∧ K23.length ≤ 61) := Lib.hid ⟨pieces_has k1 k2, pieces64 k1 k2 H64A.out.1 H64A.out.2, by omega⟩
    have S23 := Lib.hid ks
    clear k1 k2 kl ks
    refine hK.out _ _ (KP.out _ hk) (fun hHeld => ?_)
    clear hK K
    try (conv => arg 8; simp only [Act.put, List.setIfInBounds_toArray, List.set_cons_zero, List.set_cons_succ])
    refine wpAnyH_ready (rs := [24]) (by kernel_rfl) (by simp) ?_
    refine AllReadyH.cons (o := { dst := some 40, op := Op.call { callee := Callee.value (Operand.func 12), args := #[Operand.tmp 39], argTypes := #[22] }, type := 26, pos := "law.go:151", after := #[{ on := 23, ground := Ground.data }, { on := 23, ground := Ground.chain }, { on := 20, ground := Ground.guard }], guard := some (20, true) }) rfl (fun K hK => ?_) AllReadyH.nil
    refine want (by kernel_rfl) ?_
    refine opCall (ent_Of _ _ _ _ _ _ _ _ _) ?_
    refine (Of_set _ _ K23 _ (by have := H23.out.2.2; omega) H23.out.2.1 S23.out).mono ?_
    rintro e y24 ⟨v24, rfl, hs, hb, -⟩
    clear S23
    replace F27 := Lib.hid (SpansIn.below F27.out hb (Nat.le_refl _))
    replace hk := kc hb hk
    clear hb hHeld
    have I24 := Lib.hid hs
    clear hs
    refine hK.out _ _ (KP.out _ hk) (fun hHeld => ?_)
    clear hK K
    try (conv => arg 8; simp only [Act.put, List.setIfInBounds_toArray, List.set_cons_zero, List.set_cons_succ])
    refine wpAnyH_ready (rs := [25]) (by kernel_rfl) (by simp) ?_
    refine AllReadyH.cons (o := { dst := some 41, op := Op.call { callee := Callee.value (Operand.func 15), args := #[Operand.tmp 40], argTypes := #[26] }, type := 22, pos := "law.go:151", after := #[{ on := 24, ground := Ground.data }, { on := 24, ground := Ground.chain }, { on := 20, ground := Ground.guard }], guard := some (20, true) }) rfl (fun K hK => ?_) AllReadyH.nil
    refine want (by kernel_rfl) ?_
    refine opCall (ent_All _ _ _ _ _ _ _ _ _) ?_
    refine (AllK I24.out (by have := H23.out.2.2; omega)).mono ?_
    rintro e y25 ⟨K25, q25, c25, rfl, kx, mx, -, lx, sx, hb⟩
    clear I24
    replace F27 := Lib.hid (SpansIn.below F27.out hb (Nat.le_refl _))
    replace hk := kc hb hk
    clear hb hHeld
    have H25 : Hid (Canon K25 ∧ (∀ d, Mem K25 d ↔ hasB K23 d = true) ∧ K25.length ≤ (2 * K23.length)) := Lib.hid ⟨kx, mx, lx⟩
    have S25 := Lib.hid sx
    clear kx mx lx sx
    refine hK.out _ _ (KP.out _ hk) (fun hHeld => ?_)
    clear hK K
    try (conv => arg 8; simp only [Act.put, List.setIfInBounds_toArray, List.set_cons_zero, List.set_cons_succ])
    refine wpAnyH_ready (rs := [28]) (by kernel_rfl) (by simp) ?_
    refine AllReadyH.cons (o := { dst := some 44, op := Op.call { callee := Callee.value (Operand.func 12), args := #[Operand.tmp 43], argTypes := #[22] }, type := 26, pos := "law.go:151", after := #[{ on := 27, ground := Ground.data }, { on := 25, ground := Ground.chain }, { on := 20, ground := Ground.guard }], guard := some (20, true) }) rfl (fun K hK => ?_) AllReadyH.nil
    refine want (by kernel_rfl) ?_
    refine opCall (ent_Of _ _ _ _ _ _ _ _ _) ?_
    refine (OfOne _ _ (a) (b) _ H64A.out.1 H64A.out.2 F27.out).mono ?_
    rintro e y28 ⟨v28, rfl, hs, hb, -⟩
    clear F27
    replace S25 := Lib.hid (SpansIn.below S25.out hb (Nat.le_refl _))
    replace hk := kc hb hk
    clear hb hHeld
    have I28 := Lib.hid hs
    clear hs
    refine hK.out _ _ (KP.out _ hk) (fun hHeld => ?_)
    clear hK K
    try (conv => arg 8; simp only [Act.put, List.setIfInBounds_toArray, List.set_cons_zero, List.set_cons_succ])
    refine wpAnyH_ready (rs := [29]) (by kernel_rfl) (by simp) ?_
    refine AllReadyH.cons (o := { dst := some 45, op := Op.call { callee := Callee.value (Operand.func 15), args := #[Operand.tmp 44], argTypes := #[26] }, type := 22, pos := "law.go:151", after := #[{ on := 28, ground := Ground.data }, { on := 28, ground := Ground.chain }, { on := 20, ground := Ground.guard }], guard := some (20, true) }) rfl (fun K hK => ?_) AllReadyH.nil
    refine want (by kernel_rfl) ?_
    refine opCall (ent_All _ _ _ _ _ _ _ _ _) ?_
    refine (AllK I28.out (by omega)).mono ?_
    rintro e y29 ⟨K29, q29, c29, rfl, kx, mx, -, lx, sx, hb⟩
    clear I28
    replace S25 := Lib.hid (SpansIn.below S25.out hb (Nat.le_refl _))
    replace hk := kc hb hk
    clear hb hHeld
    have H29 : Hid (Canon K29 ∧ (∀ d, Mem K29 d ↔ hasB [(a, b)] d = true) ∧ K29.length ≤ 2) := Lib.hid ⟨kx, mx, lx⟩
    have S29 := Lib.hid sx
    clear kx mx lx sx
    refine hK.out _ _ (KP.out _ hk) (fun hHeld => ?_)
    clear hK K
    try (conv => arg 8; simp only [Act.put, List.setIfInBounds_toArray, List.set_cons_zero, List.set_cons_succ])
    refine wpAnyH_ready (rs := [30]) (by kernel_rfl) (by simp) ?_
    refine AllReadyH.cons (o := { dst := some 46, op := Op.call { callee := Callee.value (Operand.func 14), args := #[Operand.tmp 41, Operand.tmp 45], argTypes := #[22, 22] }, type := 4, pos := "law.go:151", after := #[{ on := 25, ground := Ground.data }, { on := 29, ground := Ground.data }, { on := 29, ground := Ground.chain }, { on := 20, ground := Ground.guard }], guard := some (20, true) }) rfl (fun K hK => ?_) AllReadyH.nil
    refine want (by kernel_rfl) ?_
    refine opCall (ent_Same _ _ _ _ _ _ _ _ _ _) ?_
    refine (SameK S25.out S29.out (by have := H25.out.2.2; have := H23.out.2.2; omega) (canon_eq H25.out.1 H29.out.1 H25.out.2.1 H29.out.2.1 (fun d => H23.out.1 d))).mono ?_
    rintro e y30 ⟨rfl, hb⟩
    clear S25 S29
    clear H25 H29
    replace hk := kc hb hk
    clear hb hHeld
    refine hK.out _ _ (KP.out _ hk) (fun hHeld => ?_)
    clear hK K
    try (conv => arg 8; simp only [Act.put, List.setIfInBounds_toArray, List.set_cons_zero, List.set_cons_succ])
    exact J2.out _ _ _ _ (by kernel_rfl) (by kernel_rfl) ⟨⟨_, _, _, _, _, _, _, _, _, _, _, _, _, _, _, _, _, _, _, _, _, _, _, _, _, _, _, _, _, _, _, _, _, _, _, _, _, _, _, _, _, _, _, _, _, _, _, _, _, _, _, _, _, _, _, _, rfl⟩, hk⟩
  refine wpAnyH_take (i := 0) (oi := { dst := some 16, op := Op.load 39 (Operand.tmp 7), type := 39, pos := "law.go:151", after := #[], guard := none }) (v := ?_) rfl (by kernel_rfl) (by kernel_rfl) (by kernel_rfl) (fun _ _ _ h => h) (Or.inl ⟨by kernel_rfl, ?_⟩) (by assumption) ?_
  rotate_left 1
  · intro w hSw
    (try dsimp only at hSw)
    go_simp
    all_goals (with_reducible rfl)
  try (conv => arg 8; simp only [Act.put, List.setIfInBounds_toArray, List.set_cons_zero, List.set_cons_succ])
  refine wpAnyH_take (i := 1) (oi := { dst := some 17, op := Op.load 39 (Operand.tmp 4), type := 39, pos := "law.go:151", after := #[], guard := none }) (v := ?_) rfl (by kernel_rfl) (by kernel_rfl) (by kernel_rfl) (fun _ _ _ h => h) (Or.inl ⟨by kernel_rfl, ?_⟩) (by assumption) ?_
  rotate_left 1
  · intro w hSw
    (try dsimp only at hSw)
    go_simp
    all_goals (with_reducible rfl)
  try (conv => arg 8; simp only [Act.put, List.setIfInBounds_toArray, List.set_cons_zero, List.set_cons_succ])
  refine wpAnyH_take (i := 2) (oi := { dst := some 18, op := Op.load 39 (Operand.tmp 3), type := 39, pos := "law.go:151", after := #[], guard := none }) (v := ?_) rfl (by kernel_rfl) (by kernel_rfl) (by kernel_rfl) (fun _ _ _ h => h) (Or.inl ⟨by kernel_rfl, ?_⟩) (by assumption) ?_
  rotate_left 1
  · intro w hSw
    (try dsimp only at hSw)
    go_simp
    all_goals (with_reducible rfl)
  try (conv => arg 8; simp only [Act.put, List.setIfInBounds_toArray, List.set_cons_zero, List.set_cons_succ])
  refine wpAnyH_ready (rs := [3]) (by kernel_rfl) (by simp) ?_
  refine AllReadyH.cons (o := { dst := some 19, op := Op.call { callee := Callee.value (Operand.func 26), args := #[Operand.tmp 17, Operand.tmp 18], argTypes := #[39, 39] }, type := 39, pos := "law.go:151", after := #[{ on := 1, ground := Ground.data }, { on := 2, ground := Ground.data }], guard := none }) rfl (fun K hK => ?_) AllReadyH.nil
  refine want (by kernel_rfl) ?_
  refine opCall (ent_Cross _ _ _ _ _ _ _ _ _ _) ?_
  refine (HC2.out _).mono ?_
  rintro e y3 ⟨rfl, hb⟩
  replace hk := kc hb hk
  clear hb hHeld
  refine hK.out _ _ (KP.out _ hk) (fun hHeld => ?_)
  clear hK K
  try (conv => arg 8; simp only [Act.put, List.setIfInBounds_toArray, List.set_cons_zero, List.set_cons_succ])
  refine wpAnyH_take (i := 4) (oi := { dst := some 20, op := Op.binOp BinOp.eql 39 (Operand.tmp 16) (Operand.tmp 19) 39, type := 4, pos := "law.go:151", after := #[{ on := 0, ground := Ground.data }, { on := 3, ground := Ground.data }], guard := none }) (v := ?_) rfl (by kernel_rfl) (by kernel_rfl) (by kernel_rfl) (fun _ _ _ h => h) (Or.inl ⟨by kernel_rfl, ?_⟩) (by assumption) ?_
  rotate_left 1
  · intro w hSw
    (try dsimp only at hSw)
    go_simp
    all_goals (with_reducible rfl)
  try (conv => arg 8; simp only [Act.put, List.setIfInBounds_toArray, List.set_cons_zero, List.set_cons_succ])
  refine wpAnyH_take (i := 5) (oi := { dst := some 21, op := Op.move (Operand.tmp 20), type := 4, pos := "law.go:151", after := #[{ on := 4, ground := Ground.data }, { on := 3, ground := Ground.chain }], guard := none }) (v := ?_) rfl (by kernel_rfl) (by kernel_rfl) (by kernel_rfl) (fun _ _ _ h => h) (Or.inl ⟨by kernel_rfl, ?_⟩) (by assumption) ?_
  rotate_left 1
  · intro w hSw
    (try dsimp only at hSw)
    go_simp
    all_goals (with_reducible rfl)
  try (conv => arg 8; simp only [Act.put, List.setIfInBounds_toArray, List.set_cons_zero, List.set_cons_succ])
  refine wpAnyH_take (i := 6) (oi := { dst := some 22, op := Op.load 39 (Operand.tmp 7), type := 39, pos := "law.go:151", after := #[{ on := 5, ground := Ground.guard }], guard := some (5, true) }) (v := ?_) rfl (by kernel_rfl) (by kernel_rfl) (by kernel_rfl) (fun _ _ _ h => h) (Or.inl ⟨by kernel_rfl, ?_⟩) (by assumption) ?_
  rotate_left 1
  · intro w hSw
    (try dsimp only at hSw)
    go_simp
    all_goals (with_reducible rfl)
  try (conv => arg 8; simp only [Act.put, List.setIfInBounds_toArray, List.set_cons_zero, List.set_cons_succ])
  refine wpAnyH_take (i := 10) (oi := { dst := some 26, op := Op.load 39 (Operand.tmp 3), type := 39, pos := "law.go:151", after := #[{ on := 5, ground := Ground.guard }], guard := some (5, true) }) (v := ?_) rfl (by kernel_rfl) (by kernel_rfl) (by kernel_rfl) (fun _ _ _ h => h) (Or.inl ⟨by kernel_rfl, ?_⟩) (by assumption) ?_
  rotate_left 1
  · intro w hSw
    (try dsimp only at hSw)
    go_simp
    all_goals (with_reducible rfl)
  try (conv => arg 8; simp only [Act.put, List.setIfInBounds_toArray, List.set_cons_zero, List.set_cons_succ])
  refine wpAnyH_take (i := 13) (oi := { dst := some 29, op := Op.load 39 (Operand.tmp 4), type := 39, pos := "law.go:151", after := #[{ on := 5, ground := Ground.guard }], guard := some (5, true) }) (v := ?_) rfl (by kernel_rfl) (by kernel_rfl) (by kernel_rfl) (fun _ _ _ h => h) (Or.inl ⟨by kernel_rfl, ?_⟩) (by assumption) ?_
  rotate_left 1
  · intro w hSw
    (try dsimp only at hSw)
    go_simp
    all_goals (with_reducible rfl)
  try (conv => arg 8; simp only [Act.put, List.setIfInBounds_toArray, List.set_cons_zero, List.set_cons_succ])
  refine wpAnyH_ready (rs := [7,11,14]) (by kernel_rfl) (by simp) ?_
  refine AllReadyH.cons (o := { dst := some 23, op := Op.buildSlice 22 1 #[(0, Operand.tmp 22)], type := 22, pos := "law.go:151", after := #[{ on := 6, ground := Ground.data }, { on := 5, ground := Ground.guard }], guard := some (5, true) }) rfl (fun K hK => ?_) ?_
  · as_aux_lemma =>
    refine want (by kernel_rfl) ?_
    refine opOne 23 (.tmp 22) (X0) (Y0) rfl rfl rfl ?_
    intro g7 y7 F7 hb
    replace hk := kc hb hk
    clear hb hHeld
    refine hK.out _ _ (KP.out _ hk) (fun hHeld => ?_)
    clear hK K
    try (conv => arg 8; simp only [Act.put, List.setIfInBounds_toArray, List.set_cons_zero, List.set_cons_succ])
    refine wpAnyH_ready (rs := [8,11,14]) (by kernel_rfl) (by simp) ?_
    refine AllReadyH.cons (o := { dst := some 24, op := Op.call { callee := Callee.value (Operand.func 12), args := #[Operand.tmp 23], argTypes := #[22] }, type := 26, pos := "law.go:151", after := #[{ on := 7, ground := Ground.data }, { on := 5, ground := Ground.chain }, { on := 5, ground := Ground.guard }], guard := some (5, true) }) rfl (fun K hK => ?_) ?_
    · as_aux_lemma =>
      refine want (by kernel_rfl) ?_
      refine opCall (ent_Of _ _ _ _ _ _ _ _ _) ?_
      refine (OfOne _ _ (X0) (Y0) _ H64X.out.1 H64X.out.2 F7.out).mono ?_
      rintro e y8 ⟨v8, rfl, hs, hb, -⟩
      clear F7
      replace hk := kc hb hk
      clear hb hHeld
      have I8 := Lib.hid hs
      clear hs
      refine hK.out _ _ (KP.out _ hk) (fun hHeld => ?_)
      clear hK K
      try (conv => arg 8; simp only [Act.put, List.setIfInBounds_toArray, List.set_cons_zero, List.set_cons_succ])
      refine wpAnyH_ready (rs := [9,11,14]) (by kernel_rfl) (by simp) ?_
      refine AllReadyH.cons (o := { dst := some 25, op := Op.call { callee := Callee.value (Operand.func 15), args := #[Operand.tmp 24], argTypes := #[26] }, type := 22, pos := "law.go:151", after := #[{ on := 8, ground := Ground.data }, { on := 8, ground := Ground.chain }, { on := 5, ground := Ground.guard }], guard := some (5, true) }) rfl (fun K hK => ?_) ?_
      · as_aux_lemma =>
        refine want (by kernel_rfl) ?_
        refine opCall (ent_All _ _ _ _ _ _ _ _ _) ?_
        refine (AllK I8.out (by omega)).mono ?_
        rintro e y9 ⟨K9, q9, c9, rfl, kx, mx, -, lx, sx, hb⟩
        clear I8
        replace hk := kc hb hk
        clear hb hHeld
        have H9 : Hid (Canon K9 ∧ (∀ d, Mem K9 d ↔ hasB [(X0, Y0)] d = true) ∧ K9.length ≤ 2) := Lib.hid ⟨kx, mx, lx⟩
        have S9 := Lib.hid sx
        clear kx mx lx sx
        refine hK.out _ _ (KP.out _ hk) (fun hHeld => ?_)
        clear hK K
        try (conv => arg 8; simp only [Act.put, List.setIfInBounds_toArray, List.set_cons_zero, List.set_cons_succ])
        refine wpAnyH_ready (rs := [11,14]) (by kernel_rfl) (by simp) ?_
        refine AllReadyH.cons (o := { dst := some 27, op := Op.buildSlice 22 1 #[(0, Operand.tmp 26)], type := 22, pos := "law.go:151", after := #[{ on := 10, ground := Ground.data }, { on := 5, ground := Ground.guard }], guard := some (5, true) }) rfl (fun K hK => ?_) ?_
        · as_aux_lemma =>
          refine want (by kernel_rfl) ?_
          refine opOne 27 (.tmp 26) (a) (b) rfl rfl rfl ?_
          intro g11 y11 F11 hb
          replace S9 := Lib.hid (SpansIn.below S9.out hb (Nat.le_refl _))
          replace hk := kc hb hk
          clear hb hHeld
          refine hK.out _ _ (KP.out _ hk) (fun hHeld => ?_)
          clear hK K
          try (conv => arg 8; simp only [Act.put, List.setIfInBounds_toArray, List.set_cons_zero, List.set_cons_succ])
          refine wpAnyH_ready (rs := [12,14]) (by kernel_rfl) (by simp) ?_
          refine AllReadyH.cons (o := { dst := some 28, op := Op.call { callee := Callee.value (Operand.func 12), args := #[Operand.tmp 27], argTypes := #[22] }, type := 26, pos := "law.go:151", after := #[{ on := 11, ground := Ground.data }, { on := 9, ground := Ground.chain }, { on := 5, ground := Ground.guard }], guard := some (5, true) }) rfl (fun K hK => ?_) ?_
          · as_aux_lemma =>
            refine want (by kernel_rfl) ?_
            refine opCall (ent_Of _ _ _ _ _ _ _ _ _) ?_
            refine (OfOne _ _ (a) (b) _ H64A.out.1 H64A.out.2 F11.out).mono ?_
            rintro e y12 ⟨v12, rfl, hs, hb, -⟩
            clear F11
            replace S9 := Lib.hid (SpansIn.below S9.out hb (Nat.le_refl _))
            replace hk := kc hb hk
            clear hb hHeld
            have I12 := Lib.hid hs
            clear hs
            refine hK.out _ _ (KP.out _ hk) (fun hHeld => ?_)
            clear hK K
            try (conv => arg 8; simp only [Act.put, List.setIfInBounds_toArray, List.set_cons_zero, List.set_cons_succ])
            refine wpAnyH_ready (rs := [14]) (by kernel_rfl) (by simp) ?_
            refine AllReadyH.cons (o := { dst := some 30, op := Op.buildSlice 22 1 #[(0, Operand.tmp 29)], type := 22, pos := "law.go:151", after := #[{ on := 13, ground := Ground.data }, { on := 5, ground := Ground.guard }], guard := some (5, true) }) rfl (fun K hK => ?_) AllReadyH.nil
            refine want (by kernel_rfl) ?_
            refine opOne 30 (.tmp 29) (a') (b') rfl rfl rfl ?_
            intro g14 y14 F14 hb
            replace S9 := Lib.hid (SpansIn.below S9.out hb (Nat.le_refl _))
            replace I12 := Lib.hid (IsSet.below I12.out hb (Nat.le_refl _))
            replace hk := kc hb hk
            clear hb hHeld
            refine hK.out _ _ (KP.out _ hk) (fun hHeld => ?_)
            clear hK K
            try (conv => arg 8; simp only [Act.put, List.setIfInBounds_toArray, List.set_cons_zero, List.set_cons_succ])
            refine wpAnyH_ready (rs := [15]) (by kernel_rfl) (by simp) ?_
            refine AllReadyH.cons (o := { dst := some 31, op := Op.call { callee := Callee.value (Operand.func 12), args := #[Operand.tmp 30], argTypes := #[22] }, type := 26, pos := "law.go:151", after := #[{ on := 14, ground := Ground.data }, { on := 12, ground := Ground.chain }, { on := 5, ground := Ground.guard }], guard := some (5, true) }) rfl (fun K hK => ?_) AllReadyH.nil
            refine want (by kernel_rfl) ?_
            refine opCall (ent_Of _ _ _ _ _ _ _ _ _) ?_
            refine (OfOne _ _ (a') (b') _ H64B.out.1 H64B.out.2 F14.out).mono ?_
            rintro e y15 ⟨v15, rfl, hs, hb, -⟩
            clear F14
            replace S9 := Lib.hid (SpansIn.below S9.out hb (Nat.le_refl _))
            replace I12 := Lib.hid (IsSet.below I12.out hb (Nat.le_refl _))
            replace hk := kc hb hk
            clear hb hHeld
            have I15 := Lib.hid hs
            clear hs
            refine hK.out _ _ (KP.out _ hk) (fun hHeld => ?_)
            clear hK K
            try (conv => arg 8; simp only [Act.put, List.setIfInBounds_toArray, List.set_cons_zero, List.set_cons_succ])
            refine wpAnyH_ready (rs := [16]) (by kernel_rfl) (by simp) ?_
            refine AllReadyH.cons (o := { dst := some 32, op := Op.call { callee := Callee.value (Operand.func 18), args := #[Operand.tmp 28, Operand.tmp 31], argTypes := #[26, 26] }, type := 26, pos := "law.go:151", after := #[{ on := 12, ground := Ground.data }, { on := 15, ground := Ground.data }, { on := 15, ground := Ground.chain }, { on := 5, ground := Ground.guard }], guard := some (5, true) }) rfl (fun K hK => ?_) AllReadyH.nil
            refine want (by kernel_rfl) ?_
            refine opCall (ent_Meet _ _ _ _ _ _ _ _ _ _) ?_
            refine (MeetK I12.out I15.out (by omega) (by omega)).mono ?_
            rintro e y16 ⟨v16, rfl, hs, hb, -⟩
            clear I12 I15
            replace S9 := Lib.hid (SpansIn.below S9.out hb (Nat.le_refl _))
            replace hk := kc hb hk
            clear hb hHeld
            have I16 := Lib.hid hs
            clear hs
            refine hK.out _ _ (KP.out _ hk) (fun hHeld => ?_)
            clear hK K
            try (conv => arg 8; simp only [Act.put, List.setIfInBounds_toArray, List.set_cons_zero, List.set_cons_succ])
            refine wpAnyH_ready (rs := [17]) (by kernel_rfl) (by simp) ?_
            refine AllReadyH.cons (o := { dst := some 33, op := Op.call { callee := Callee.value (Operand.func 15), args := #[Operand.tmp 32], argTypes := #[26] }, type := 22, pos := "law.go:151", after := #[{ on := 16, ground := Ground.data }, { on := 16, ground := Ground.chain }, { on := 5, ground := Ground.guard }], guard := some (5, true) }) rfl (fun K hK => ?_) AllReadyH.nil
            refine want (by kernel_rfl) ?_
            refine opCall (ent_All _ _ _ _ _ _ _ _ _) ?_
            refine (AllK I16.out (by omega)).mono ?_
            rintro e y17 ⟨K17, q17, c17, rfl, kx, mx, -, lx, sx, hb⟩
            clear I16
            replace S9 := Lib.hid (SpansIn.below S9.out hb (Nat.le_refl _))
            replace hk := kc hb hk
            clear hb hHeld
            have H17 : Hid (Canon K17 ∧ (∀ d, Mem K17 d ↔ (hasB [(a, b)] d && hasB [(a', b')] d) = true) ∧ K17.length ≤ (2 * 2 + 2 * 2)) := Lib.hid ⟨kx, mx, lx⟩
            have S17 := Lib.hid sx
            clear kx mx lx sx
            refine hK.out _ _ (KP.out _ hk) (fun hHeld => ?_)
            clear hK K
            try (conv => arg 8; simp only [Act.put, List.setIfInBounds_toArray, List.set_cons_zero, List.set_cons_succ])
            refine wpAnyH_ready (rs := [18]) (by kernel_rfl) (by simp) ?_
            refine AllReadyH.cons (o := { dst := some 34, op := Op.call { callee := Callee.value (Operand.func 14), args := #[Operand.tmp 25, Operand.tmp 33], argTypes := #[22, 22] }, type := 4, pos := "law.go:151", after := #[{ on := 9, ground := Ground.data }, { on := 17, ground := Ground.data }, { on := 17, ground := Ground.chain }, { on := 5, ground := Ground.guard }], guard := some (5, true) }) rfl (fun K hK => ?_) AllReadyH.nil
            refine want (by kernel_rfl) ?_
            refine opCall (ent_Same _ _ _ _ _ _ _ _ _ _) ?_
            refine (SameK S9.out S17.out (by have := H9.out.2.2; omega) (canon_eq H9.out.1 H17.out.1 H9.out.2.1 H17.out.2.1 (fun d => HX.out d))).mono ?_
            rintro e y18 ⟨rfl, hb⟩
            clear S9 S17
            clear H9 H17
            replace hk := kc hb hk
            clear hb hHeld
            refine hK.out _ _ (KP.out _ hk) (fun hHeld => ?_)
            clear hK K
            try (conv => arg 8; simp only [Act.put, List.setIfInBounds_toArray, List.set_cons_zero, List.set_cons_succ])
            exact J1.out _ _ _ _ (by kernel_rfl) (by kernel_rfl) ⟨⟨_, _, _, _, _, _, _, _, _, _, _, _, _, _, _, _, _, _, _, _, _, _, _, _, _, _, _, _, _, _, _, _, _, _, _, _, _, _, _, _, _, _, _, _, _, _, _, _, _, _, _, _, _, _, _, _, rfl⟩, hk⟩
          refine AllReadyH.cons (o := { dst := some 30, op := Op.buildSlice 22 1 #[(0, Operand.tmp 29)], type := 22, pos := "law.go:151", after := #[{ on := 13, ground := Ground.data }, { on := 5, ground := Ground.guard }], guard := some (5, true) }) rfl (fun K hK => ?_) AllReadyH.nil
          refine want (by kernel_rfl) ?_
          refine opOne 30 (.tmp 29) (a') (b') rfl rfl rfl ?_
          intro g14 y14 F14 hb
          replace S9 := Lib.hid (SpansIn.below S9.out hb (Nat.le_refl _))
          replace F11 := Lib.hid (SpansIn.below F11.out hb (Nat.le_refl _))
          replace hk := kc hb hk
          clear hb hHeld
          refine hK.out _ _ (KP.out _ hk) (fun hHeld => ?_)
          clear hK K
          try (conv => arg 8; simp only [Act.put, List.setIfInBounds_toArray, List.set_cons_zero, List.set_cons_succ])
          refine wpAnyH_ready (rs := [12]) (by kernel_rfl) (by simp) ?_
          refine AllReadyH.cons (o := { dst := some 28, op := Op.call { callee := Callee.value (Operand.func 12), args := #[Operand.tmp 27], argTypes := #[22] }, type := 26, pos := "law.go:151", after := #[{ on := 11, ground := Ground.data }, { on := 9, ground := Ground.chain }, { on := 5, ground := Ground.guard }], guard := some (5, true) }) rfl (fun K hK => ?_) AllReadyH.nil
          refine want (by kernel_rfl) ?_
          refine opCall (ent_Of _ _ _ _ _ _ _ _ _) ?_
          refine (OfOne _ _ (a) (b) _ H64A.out.1 H64A.out.2 F11.out).mono ?_
          rintro e y12 ⟨v12, rfl, hs, hb, -⟩
          clear F11
          replace S9 := Lib.hid (SpansIn.below S9.out hb (Nat.le_refl _))
          replace F14 := Lib.hid (SpansIn.below F14.out hb (Nat.le_refl _))
          replace hk := kc hb hk
          clear hb hHeld
          have I12 := Lib.hid hs
          clear hs
          refine hK.out _ _ (KP.out _ hk) (fun hHeld => ?_)
          clear hK K
          try (conv => arg 8; simp only [Act.put, List.setIfInBounds_toArray, List.set_cons_zero, List.set_cons_succ])
          refine wpAnyH_ready (rs := [15]) (by kernel_rfl) (by simp) ?_
          refine AllReadyH.cons (o := { dst := some 31, op := Op.call { callee := Callee.value (Operand.func 12), args := #[Operand.tmp 30], argTypes := #[22] }, type := 26, pos := "law.go:151", after := #[{ on := 14, ground := Ground.data }, { on := 12, ground := Ground.chain }, { on := 5, ground := Ground.guard }], guard := some (5, true) }) rfl (fun K hK => ?_) AllReadyH.nil
          refine want (by kernel_rfl) ?_
          refine opCall (ent_Of _ _ _ _ _ _ _ _ _) ?_
          refine (OfOne _ _ (a') (b') _ H64B.out.1 H64B.out.2 F14.out).mono ?_
          rintro e y15 ⟨v15, rfl, hs, hb, -⟩
          clear F14
          replace S9 := Lib.hid (SpansIn.below S9.out hb (Nat.le_refl _))
          replace I12 := Lib.hid (IsSet.below I12.out hb (Nat.le_refl _))
          replace hk := kc hb hk
          clear hb hHeld
          have I15 := Lib.hid hs
          clear hs
          refine hK.out _ _ (KP.out _ hk) (fun hHeld => ?_)
          clear hK K
          try (conv => arg 8; simp only [Act.put, List.setIfInBounds_toArray, List.set_cons_zero, List.set_cons_succ])
          refine wpAnyH_ready (rs := [16]) (by kernel_rfl) (by simp) ?_
          refine AllReadyH.cons (o := { dst := some 32, op := Op.call { callee := Callee.value (Operand.func 18), args := #[Operand.tmp 28, Operand.tmp 31], argTypes := #[26, 26] }, type := 26, pos := "law.go:151", after := #[{ on := 12, ground := Ground.data }, { on := 15, ground := Ground.data }, { on := 15, ground := Ground.chain }, { on := 5, ground := Ground.guard }], guard := some (5, true) }) rfl (fun K hK => ?_) AllReadyH.nil
          refine want (by kernel_rfl) ?_
          refine opCall (ent_Meet _ _ _ _ _ _ _ _ _ _) ?_
          refine (MeetK I12.out I15.out (by omega) (by omega)).mono ?_
          rintro e y16 ⟨v16, rfl, hs, hb, -⟩
          clear I12 I15
          replace S9 := Lib.hid (SpansIn.below S9.out hb (Nat.le_refl _))
          replace hk := kc hb hk
          clear hb hHeld
          have I16 := Lib.hid hs
          clear hs
          refine hK.out _ _ (KP.out _ hk) (fun hHeld => ?_)
          clear hK K
          try (conv => arg 8; simp only [Act.put, List.setIfInBounds_toArray, List.set_cons_zero, List.set_cons_succ])
          refine wpAnyH_ready (rs := [17]) (by kernel_rfl) (by simp) ?_
          refine AllReadyH.cons (o := { dst := some 33, op := Op.call { callee := Callee.value (Operand.func 15), args := #[Operand.tmp 32], argTypes := #[26] }, type := 22, pos := "law.go:151", after := #[{ on := 16, ground := Ground.data }, { on := 16, ground := Ground.chain }, { on := 5, ground := Ground.guard }], guard := some (5, true) }) rfl (fun K hK => ?_) AllReadyH.nil
          refine want (by kernel_rfl) ?_
          refine opCall (ent_All _ _ _ _ _ _ _ _ _) ?_
          refine (AllK I16.out (by omega)).mono ?_
          rintro e y17 ⟨K17, q17, c17, rfl, kx, mx, -, lx, sx, hb⟩
          clear I16
          replace S9 := Lib.hid (SpansIn.below S9.out hb (Nat.le_refl _))
          replace hk := kc hb hk
          clear hb hHeld
          have H17 : Hid (Canon K17 ∧ (∀ d, Mem K17 d ↔ (hasB [(a, b)] d && hasB [(a', b')] d) = true) ∧ K17.length ≤ (2 * 2 + 2 * 2)) := Lib.hid ⟨kx, mx, lx⟩
          have S17 := Lib.hid sx
          clear kx mx lx sx
          refine hK.out _ _ (KP.out _ hk) (fun hHeld => ?_)
          clear hK K
          try (conv => arg 8; simp only [Act.put, List.setIfInBounds_toArray, List.set_cons_zero, List.set_cons_succ])
          refine wpAnyH_ready (rs := [18]) (by kernel_rfl) (by simp) ?_
          refine AllReadyH.cons (o := { dst := some 34, op := Op.call { callee := Callee.value (Operand.func 14), args := #[Operand.tmp 25, Operand.tmp 33], argTypes := #[22, 22] }, type := 4, pos := "law.go:151", after := #[{ on := 9, ground := Ground.data }, { on := 17, ground := Ground.data }, { on := 17, ground := Ground.chain }, { on := 5, ground := Ground.guard }], guard := some (5, true) }) rfl (fun K hK => ?_) AllReadyH.nil
          refine want (by kernel_rfl) ?_
          refine opCall (ent_Same _ _ _ _ _ _ _ _ _ _) ?_
          refine (SameK S9.out S17.out (by have := H9.out.2.2; omega) (canon_eq H9.out.1 H17.out.1 H9.out.2.1 H17.out.2.1 (fun d => HX.out d))).mono ?_
          rintro e y18 ⟨rfl, hb⟩
          clear S9 S17
          clear H9 H17
          replace hk := kc hb hk
          clear hb hHeld
          refine hK.out _ _ (KP.out _ hk) (fun hHeld => ?_)
          clear hK K
          try (conv => arg 8; simp only [Act.put, List.setIfInBounds_toArray, List.set_cons_zero, List.set_cons_succ])
          exact J1.out _ _ _ _ (by kernel_rfl) (by kernel_rfl) ⟨⟨_, _, _, _, _, _, _, _, _, _, _, _, _, _, _, _, _, _, _, _, _, _, _, _, _, _, _, _, _, _, _, _, _, _, _, _, _, _, _, _, _, _, _, _, _, _, _, _, _, _, _, _, _, _, _, _, rfl⟩, hk⟩
        refine AllReadyH.cons (o := { dst := some 30, op := Op.buildSlice 22 1 #[(0, Operand.tmp 29)], type := 22, pos := "law.go:151", after := #[{ on := 13, ground := Ground.data }, { on := 5, ground := Ground.guard }], guard := some (5, true) }) rfl (fun K hK => ?_) AllReadyH.nil
        refine want (by kernel_rfl) ?_
        refine opOne 30 (.tmp 29) (a') (b') rfl rfl rfl ?_
        intro g14 y14 F14 hb
        replace S9 := Lib.hid (SpansIn.below S9.out hb (Nat.le_refl _))
        replace hk := kc hb hk
        clear hb hHeld
        refine hK.out _ _ (KP.out _ hk) (fun hHeld => ?_)
        clear hK K
        try (conv => arg 8; simp only [Act.put, List.setIfInBounds_toArray, List.set_cons_zero, List.set_cons_succ])
        refine wpAnyH_ready (rs := [11]) (by kernel_rfl) (by simp) ?_
        refine AllReadyH.cons (o := { dst := some 27, op := Op.buildSlice 22 1 #[(0, Operand.tmp 26)], type := 22, pos := "law.go:151", after := #[{ on := 10, ground := Ground.data }, { on := 5, ground := Ground.guard }], guard := some (5, true) }) rfl (fun K hK => ?_) AllReadyH.nil
        refine want (by kernel_rfl) ?_
        refine opOne 27 (.tmp 26) (a) (b) rfl rfl rfl ?_
        intro g11 y11 F11 hb
        replace S9 := Lib.hid (SpansIn.below S9.out hb (Nat.le_refl _))
        replace F14 := Lib.hid (SpansIn.below F14.out hb (Nat.le_refl _))
        replace hk := kc hb hk
        clear hb hHeld
        refine hK.out _ _ (KP.out _ hk) (fun hHeld => ?_)
        clear hK K
        try (conv => arg 8; simp only [Act.put, List.setIfInBounds_toArray, List.set_cons_zero, List.set_cons_succ])
        refine wpAnyH_ready (rs := [12]) (by kernel_rfl) (by simp) ?_
        refine AllReadyH.cons (o := { dst := some 28, op := Op.call { callee := Callee.value (Operand.func 12), args := #[Operand.tmp 27], argTypes := #[22] }, type := 26, pos := "law.go:151", after := #[{ on := 11, ground := Ground.data }, { on := 9, ground := Ground.chain }, { on := 5, ground := Ground.guard }], guard := some (5, true) }) rfl (fun K hK => ?_) AllReadyH.nil
        refine want (by kernel_rfl) ?_
        refine opCall (ent_Of _ _ _ _ _ _ _ _ _) ?_
        refine (OfOne _ _ (a) (b) _ H64A.out.1 H64A.out.2 F11.out).mono ?_
        rintro e y12 ⟨v12, rfl, hs, hb, -⟩
        clear F11
        replace S9 := Lib.hid (SpansIn.below S9.out hb (Nat.le_refl _))
        replace F14 := Lib.hid (SpansIn.below F14.out hb (Nat.le_refl _))
        replace hk := kc hb hk
        clear hb hHeld
        have I12 := Lib.hid hs
        clear hs
        refine hK.out _ _ (KP.out _ hk) (fun hHeld => ?_)
        clear hK K
        try (conv => arg 8; simp only [Act.put, List.setIfInBounds_toArray, List.set_cons_zero, List.set_cons_succ])
        refine wpAnyH_ready (rs := [15]) (by kernel_rfl) (by simp) ?_
        refine AllReadyH.cons (o := { dst := some 31, op := Op.call { callee := Callee.value (Operand.func 12), args := #[Operand.tmp 30], argTypes := #[22] }, type := 26, pos := "law.go:151", after := #[{ on := 14, ground := Ground.data }, { on := 12, ground := Ground.chain }, { on := 5, ground := Ground.guard }], guard := some (5, true) }) rfl (fun K hK => ?_) AllReadyH.nil
        refine want (by kernel_rfl) ?_
        refine opCall (ent_Of _ _ _ _ _ _ _ _ _) ?_
        refine (OfOne _ _ (a') (b') _ H64B.out.1 H64B.out.2 F14.out).mono ?_
        rintro e y15 ⟨v15, rfl, hs, hb, -⟩
        clear F14
        replace S9 := Lib.hid (SpansIn.below S9.out hb (Nat.le_refl _))
        replace I12 := Lib.hid (IsSet.below I12.out hb (Nat.le_refl _))
        replace hk := kc hb hk
        clear hb hHeld
        have I15 := Lib.hid hs
        clear hs
        refine hK.out _ _ (KP.out _ hk) (fun hHeld => ?_)
        clear hK K
        try (conv => arg 8; simp only [Act.put, List.setIfInBounds_toArray, List.set_cons_zero, List.set_cons_succ])
        refine wpAnyH_ready (rs := [16]) (by kernel_rfl) (by simp) ?_
        refine AllReadyH.cons (o := { dst := some 32, op := Op.call { callee := Callee.value (Operand.func 18), args := #[Operand.tmp 28, Operand.tmp 31], argTypes := #[26, 26] }, type := 26, pos := "law.go:151", after := #[{ on := 12, ground := Ground.data }, { on := 15, ground := Ground.data }, { on := 15, ground := Ground.chain }, { on := 5, ground := Ground.guard }], guard := some (5, true) }) rfl (fun K hK => ?_) AllReadyH.nil
        refine want (by kernel_rfl) ?_
        refine opCall (ent_Meet _ _ _ _ _ _ _ _ _ _) ?_
        refine (MeetK I12.out I15.out (by omega) (by omega)).mono ?_
        rintro e y16 ⟨v16, rfl, hs, hb, -⟩
        clear I12 I15
        replace S9 := Lib.hid (SpansIn.below S9.out hb (Nat.le_refl _))
        replace hk := kc hb hk
        clear hb hHeld
        have I16 := Lib.hid hs
        clear hs
        refine hK.out _ _ (KP.out _ hk) (fun hHeld => ?_)
        clear hK K
        try (conv => arg 8; simp only [Act.put, List.setIfInBounds_toArray, List.set_cons_zero, List.set_cons_succ])
        refine wpAnyH_ready (rs := [17]) (by kernel_rfl) (by simp) ?_
        refine AllReadyH.cons (o := { dst := some 33, op := Op.call { callee := Callee.value (Operand.func 15), args := #[Operand.tmp 32], argTypes := #[26] }, type := 22, pos := "law.go:151", after := #[{ on := 16, ground := Ground.data }, { on := 16, ground := Ground.chain }, { on := 5, ground := Ground.guard }], guard := some (5, true) }) rfl (fun K hK => ?_) AllReadyH.nil
        refine want (by kernel_rfl) ?_
        refine opCall (ent_All _ _ _ _ _ _ _ _ _) ?_
        refine (AllK I16.out (by omega)).mono ?_
        rintro e y17 ⟨K17, q17, c17, rfl, kx, mx, -, lx, sx, hb⟩
        clear I16
        replace S9 := Lib.hid (SpansIn.below S9.out hb (Nat.le_refl _))
        replace hk := kc hb hk
        clear hb hHeld
        have H17 : Hid (Canon K17 ∧ (∀ d, Mem K17 d ↔ (hasB [(a, b)] d && hasB [(a', b')] d) = true) ∧ K17.length ≤ (2 * 2 + 2 * 2)) := Lib.hid ⟨kx, mx, lx⟩
        have S17 := Lib.hid sx
        clear kx mx lx sx
        refine hK.out _ _ (KP.out _ hk) (fun hHeld => ?_)
        clear hK K
        try (conv => arg 8; simp only [Act.put, List.setIfInBounds_toArray, List.set_cons_zero, List.set_cons_succ])
        refine wpAnyH_ready (rs := [18]) (by kernel_rfl) (by simp) ?_
        refine AllReadyH.cons (o := { dst := some 34, op := Op.call { callee := Callee.value (Operand.func 14), args := #[Operand.tmp 25, Operand.tmp 33], argTypes := #[22, 22] }, type := 4, pos := "law.go:151", after := #[{ on := 9, ground := Ground.data }, { on := 17, ground := Ground.data }, { on := 17, ground := Ground.chain }, { on := 5, ground := Ground.guard }], guard := some (5, true) }) rfl (fun K hK => ?_) AllReadyH.nil
        refine want (by kernel_rfl) ?_
        refine opCall (ent_Same _ _ _ _ _ _ _ _ _ _) ?_
        refine (SameK S9.out S17.out (by have := H9.out.2.2; omega) (canon_eq H9.out.1 H17.out.1 H9.out.2.1 H17.out.2.1 (fun d => HX.out d))).mono ?_
        rintro e y18 ⟨rfl, hb⟩
        clear S9 S17
        clear H9 H17
        replace hk := kc hb hk
        clear hb hHeld
        refine hK.out _ _ (KP.out _ hk) (fun hHeld => ?_)
        clear hK K
        try (conv => arg 8; simp only [Act.put, List.setIfInBounds_toArray, List.set_cons_zero, List.set_cons_succ])
        exact J1.out _ _ _ _ (by kernel_rfl) (by kernel_rfl) ⟨⟨_, _, _, _, _, _, _, _, _, _, _, _, _, _, _, _, _, _, _, _, _, _, _, _, _, _, _, _, _, _, _, _, _, _, _, _, _, _, _, _, _, _, _, _, _, _, _, _, _, _, _, _, _, _, _, _, rfl⟩, hk⟩
      refine AllReadyH.cons (o := { dst := some 27, op := Op.buildSlice 22 1 #[(0, Operand.tmp 26)], type := 22, pos := "law.go:151", after := #[{ on := 10, ground := Ground.data }, { on := 5, ground := Ground.guard }], guard := some (5, true) }) rfl (fun K hK => ?_) ?_
      · as_aux_lemma =>
        refine want (by kernel_rfl) ?_
        refine opOne 27 (.tmp 26) (a) (b) rfl rfl rfl ?_
        intro g11 y11 F11 hb
        replace I8 := Lib.hid (IsSet.below I8.out hb (Nat.le_refl _))
        replace hk := kc hb hk
        clear hb hHeld
        refine hK.out _ _ (KP.out _ hk) (fun hHeld => ?_)
        clear hK K
        try (conv => arg 8; simp only [Act.put, List.setIfInBounds_toArray, List.set_cons_zero, List.set_cons_succ])
        refine wpAnyH_ready (rs := [9,14]) (by kernel_rfl) (by simp) ?_
        refine AllReadyH.cons (o := { dst := some 25, op := Op.call { callee := Callee.value (Operand.func 15), args := #[Operand.tmp 24], argTypes := #[26] }, type := 22, pos := "law.go:151", after := #[{ on := 8, ground := Ground.data }, { on := 8, ground := Ground.chain }, { on := 5, ground := Ground.guard }], guard := some (5, true) }) rfl (fun K hK => ?_) ?_
        · as_aux_lemma =>
          refine want (by kernel_rfl) ?_
          refine opCall (ent_All _ _ _ _ _ _ _ _ _) ?_
          refine (AllK I8.out (by omega)).mono ?_
          rintro e y9 ⟨K9, q9, c9, rfl, kx, mx, -, lx, sx, hb⟩
          clear I8
          replace F11 := Lib.hid (SpansIn.below F11.out hb (Nat.le_refl _))
          replace hk := kc hb hk
          clear hb hHeld
          have H9 : Hid (Canon K9 ∧ (∀ d, Mem K9 d ↔ hasB [(X0, Y0)] d = true) ∧ K9.length ≤ 2) := Lib.hid ⟨kx, mx, lx⟩
          have S9 := Lib.hid sx
          clear kx mx lx sx
          refine hK.out _ _ (KP.out _ hk) (fun hHeld => ?_)
          clear hK K
          try (conv => arg 8; simp only [Act.put, List.setIfInBounds_toArray, List.set_cons_zero, List.set_cons_succ])
          refine wpAnyH_ready (rs := [12,14]) (by kernel_rfl) (by simp) ?_
          refine AllReadyH.cons (o := { dst := some 28, op := Op.call { callee := Callee.value (Operand.func 12), args := #[Operand.tmp 27], argTypes := #[22] }, type := 26, pos := "law.go:151", after := #[{ on := 11, ground := Ground.data }, { on := 9, ground := Ground.chain }, { on := 5, ground := Ground.guard }], guard := some (5, true) }) rfl (fun K hK => ?_) ?_
          · as_aux_lemma =>
            refine want (by kernel_rfl) ?_
            refine opCall (ent_Of _ _ _ _ _ _ _ _ _) ?_
            refine (OfOne _ _ (a) (b) _ H64A.out.1 H64A.out.2 F11.out).mono ?_
            rintro e y12 ⟨v12, rfl, hs, hb, -⟩
            clear F11
            replace S9 := Lib.hid (SpansIn.below S9.out hb (Nat.le_refl _))
            replace hk := kc hb hk
            clear hb hHeld
            have I12 := Lib.hid hs
            clear hs
            refine hK.out _ _ (KP.out _ hk) (fun hHeld => ?_)
            clear hK K
            try (conv => arg 8; simp only [Act.put, List.setIfInBounds_toArray, List.set_cons_zero, List.set_cons_succ])
            refine wpAnyH_ready (rs := [14]) (by kernel_rfl) (by simp) ?_
            refine AllReadyH.cons (o := { dst := some 30, op := Op.buildSlice 22 1 #[(0, Operand.tmp 29)], type := 22, pos := "law.go:151", after := #[{ on := 13, ground := Ground.data }, { on := 5, ground := Ground.guard }], guard := some (5, true) }) rfl (fun K hK => ?_) AllReadyH.nil
            refine want (by kernel_rfl) ?_
            refine opOne 30 (.tmp 29) (a') (b') rfl rfl rfl ?_
            intro g14 y14 F14 hb
            replace S9 := Lib.hid (SpansIn.below S9.out hb (Nat.le_refl _))
            replace I12 := Lib.hid (IsSet.below I12.out hb (Nat.le_refl _))
            replace hk := kc hb hk
            clear hb hHeld
            refine hK.out _ _ (KP.out _ hk) (fun hHeld => ?_)
            clear hK K
            try (conv => arg 8; simp only [Act.put, List.setIfInBounds_toArray, List.set_cons_zero, List.set_cons_succ])
            refine wpAnyH_ready (rs := [15]) (by kernel_rfl) (by simp) ?_
            refine AllReadyH.cons (o := { dst := some 31, op := Op.call { callee := Callee.value (Operand.func 12), args := #[Operand.tmp 30], argTypes := #[22] }, type := 26, pos := "law.go:151", after := #[{ on := 14, ground := Ground.data }, { on := 12, ground := Ground.chain }, { on := 5, ground := Ground.guard }], guard := some (5, true) }) rfl (fun K hK => ?_) AllReadyH.nil
            refine want (by kernel_rfl) ?_
            refine opCall (ent_Of _ _ _ _ _ _ _ _ _) ?_
            refine (OfOne _ _ (a') (b') _ H64B.out.1 H64B.out.2 F14.out).mono ?_
            rintro e y15 ⟨v15, rfl, hs, hb, -⟩
            clear F14
            replace S9 := Lib.hid (SpansIn.below S9.out hb (Nat.le_refl _))
            replace I12 := Lib.hid (IsSet.below I12.out hb (Nat.le_refl _))
            replace hk := kc hb hk
            clear hb hHeld
            have I15 := Lib.hid hs
            clear hs
            refine hK.out _ _ (KP.out _ hk) (fun hHeld => ?_)
            clear hK K
            try (conv => arg 8; simp only [Act.put, List.setIfInBounds_toArray, List.set_cons_zero, List.set_cons_succ])
            refine wpAnyH_ready (rs := [16]) (by kernel_rfl) (by simp) ?_
            refine AllReadyH.cons (o := { dst := some 32, op := Op.call { callee := Callee.value (Operand.func 18), args := #[Operand.tmp 28, Operand.tmp 31], argTypes := #[26, 26] }, type := 26, pos := "law.go:151", after := #[{ on := 12, ground := Ground.data }, { on := 15, ground := Ground.data }, { on := 15, ground := Ground.chain }, { on := 5, ground := Ground.guard }], guard := some (5, true) }) rfl (fun K hK => ?_) AllReadyH.nil
            refine want (by kernel_rfl) ?_
            refine opCall (ent_Meet _ _ _ _ _ _ _ _ _ _) ?_
            refine (MeetK I12.out I15.out (by omega) (by omega)).mono ?_
            rintro e y16 ⟨v16, rfl, hs, hb, -⟩
            clear I12 I15
            replace S9 := Lib.hid (SpansIn.below S9.out hb (Nat.le_refl _))
            replace hk := kc hb hk
            clear hb hHeld
            have I16 := Lib.hid hs
            clear hs
            refine hK.out _ _ (KP.out _ hk) (fun hHeld => ?_)
            clear hK K
            try (conv => arg 8; simp only [Act.put, List.setIfInBounds_toArray, List.set_cons_zero, List.set_cons_succ])
            refine wpAnyH_ready (rs := [17]) (by kernel_rfl) (by simp) ?_
            refine AllReadyH.cons (o := { dst := some 33, op := Op.call { callee := Callee.value (Operand.func 15), args := #[Operand.tmp 32], argTypes := #[26] }, type := 22, pos := "law.go:151", after := #[{ on := 16, ground := Ground.data }, { on := 16, ground := Ground.chain }, { on := 5, ground := Ground.guard }], guard := some (5, true) }) rfl (fun K hK => ?_) AllReadyH.nil
            refine want (by kernel_rfl) ?_
            refine opCall (ent_All _ _ _ _ _ _ _ _ _) ?_
            refine (AllK I16.out (by omega)).mono ?_
            rintro e y17 ⟨K17, q17, c17, rfl, kx, mx, -, lx, sx, hb⟩
            clear I16
            replace S9 := Lib.hid (SpansIn.below S9.out hb (Nat.le_refl _))
            replace hk := kc hb hk
            clear hb hHeld
            have H17 : Hid (Canon K17 ∧ (∀ d, Mem K17 d ↔ (hasB [(a, b)] d && hasB [(a', b')] d) = true) ∧ K17.length ≤ (2 * 2 + 2 * 2)) := Lib.hid ⟨kx, mx, lx⟩
            have S17 := Lib.hid sx
            clear kx mx lx sx
            refine hK.out _ _ (KP.out _ hk) (fun hHeld => ?_)
            clear hK K
            try (conv => arg 8; simp only [Act.put, List.setIfInBounds_toArray, List.set_cons_zero, List.set_cons_succ])
            refine wpAnyH_ready (rs := [18]) (by kernel_rfl) (by simp) ?_
            refine AllReadyH.cons (o := { dst := some 34, op := Op.call { callee := Callee.value (Operand.func 14), args := #[Operand.tmp 25, Operand.tmp 33], argTypes := #[22, 22] }, type := 4, pos := "law.go:151", after := #[{ on := 9, ground := Ground.data }, { on := 17, ground := Ground.data }, { on := 17, ground := Ground.chain }, { on := 5, ground := Ground.guard }], guard := some (5, true) }) rfl (fun K hK => ?_) AllReadyH.nil
            refine want (by kernel_rfl) ?_
            refine opCall (ent_Same _ _ _ _ _ _ _ _ _ _) ?_
            refine (SameK S9.out S17.out (by have := H9.out.2.2; omega) (canon_eq H9.out.1 H17.out.1 H9.out.2.1 H17.out.2.1 (fun d => HX.out d))).mono ?_
            rintro e y18 ⟨rfl, hb⟩
            clear S9 S17
            clear H9 H17
            replace hk := kc hb hk
            clear hb hHeld
            refine hK.out _ _ (KP.out _ hk) (fun hHeld => ?_)
            clear hK K
            try (conv => arg 8; simp only [Act.put, List.setIfInBounds_toArray, List.set_cons_zero, List.set_cons_succ])
            exact J1.out _ _ _ _ (by kernel_rfl) (by kernel_rfl) ⟨⟨_, _, _, _, _, _, _, _, _, _, _, _, _, _, _, _, _, _, _, _, _, _, _, _, _, _, _, _, _, _, _, _, _, _, _, _, _, _, _, _, _, _, _, _, _, _, _, _, _, _, _, _, _, _, _, _, rfl⟩, hk⟩
          refine AllReadyH.cons (o := { dst := some 30, op := Op.buildSlice 22 1 #[(0, Operand.tmp 29)], type := 22, pos := "law.go:151", after := #[{ on := 13, ground := Ground.data }, { on := 5, ground := Ground.guard }], guard := some (5, true) }) rfl (fun K hK => ?_) AllReadyH.nil
          refine want (by kernel_rfl) ?_
          refine opOne 30 (.tmp 29) (a') (b') rfl rfl rfl ?_
          intro g14 y14 F14 hb
          replace F11 := Lib.hid (SpansIn.below F11.out hb (Nat.le_refl _))
          replace S9 := Lib.hid (SpansIn.below S9.out hb (Nat.le_refl _))
          replace hk := kc hb hk
          clear hb hHeld
          refine hK.out _ _ (KP.out _ hk) (fun hHeld => ?_)
          clear hK K
          try (conv => arg 8; simp only [Act.put, List.setIfInBounds_toArray, List.set_cons_zero, List.set_cons_succ])
          refine wpAnyH_ready (rs := [12]) (by kernel_rfl) (by simp) ?_
          refine AllReadyH.cons (o := { dst := some 28, op := Op.call { callee := Callee.value (Operand.func 12), args := #[Operand.tmp 27], argTypes := #[22] }, type := 26, pos := "law.go:151", after := #[{ on := 11, ground := Ground.data }, { on := 9, ground := Ground.chain }, { on := 5, ground := Ground.guard }], guard := some (5, true) }) rfl (fun K hK => ?_) AllReadyH.nil
          refine want (by kernel_rfl) ?_
          refine opCall (ent_Of _ _ _ _ _ _ _ _ _) ?_
          refine (OfOne _ _ (a) (b) _ H64A.out.1 H64A.out.2 F11.out).mono ?_
          rintro e y12 ⟨v12, rfl, hs, hb, -⟩
          clear F11
          replace S9 := Lib.hid (SpansIn.below S9.out hb (Nat.le_refl _))
          replace F14 := Lib.hid (SpansIn.below F14.out hb (Nat.le_refl _))
          replace hk := kc hb hk
          clear hb hHeld
          have I12 := Lib.hid hs
          clear hs
          refine hK.out _ _ (KP.out _ hk) (fun hHeld => ?_)
          clear hK K
          try (conv => arg 8; simp only [Act.put, List.setIfInBounds_toArray, List.set_cons_zero, List.set_cons_succ])
          refine wpAnyH_ready (rs := [15]) (by kernel_rfl) (by simp) ?_
          refine AllReadyH.cons (o := { dst := some 31, op := Op.call { callee := Callee.value (Operand.func 12), args := #[Operand.tmp 30], argTypes := #[22] }, type := 26, pos := "law.go:151", after := #[{ on := 14, ground := Ground.data }, { on := 12, ground := Ground.chain }, { on := 5, ground := Ground.guard }], guard := some (5, true) }) rfl (fun K hK => ?_) AllReadyH.nil
          refine want (by kernel_rfl) ?_
          refine opCall (ent_Of _ _ _ _ _ _ _ _ _) ?_
          refine (OfOne _ _ (a') (b') _ H64B.out.1 H64B.out.2 F14.out).mono ?_
          rintro e y15 ⟨v15, rfl, hs, hb, -⟩
          clear F14
          replace S9 := Lib.hid (SpansIn.below S9.out hb (Nat.le_refl _))
          replace I12 := Lib.hid (IsSet.below I12.out hb (Nat.le_refl _))
          replace hk := kc hb hk
          clear hb hHeld
          have I15 := Lib.hid hs
          clear hs
          refine hK.out _ _ (KP.out _ hk) (fun hHeld => ?_)
          clear hK K
          try (conv => arg 8; simp only [Act.put, List.setIfInBounds_toArray, List.set_cons_zero, List.set_cons_succ])
          refine wpAnyH_ready (rs := [16]) (by kernel_rfl) (by simp) ?_
          refine AllReadyH.cons (o := { dst := some 32, op := Op.call { callee := Callee.value (Operand.func 18), args := #[Operand.tmp 28, Operand.tmp 31], argTypes := #[26, 26] }, type := 26, pos := "law.go:151", after := #[{ on := 12, ground := Ground.data }, { on := 15, ground := Ground.data }, { on := 15, ground := Ground.chain }, { on := 5, ground := Ground.guard }], guard := some (5, true) }) rfl (fun K hK => ?_) AllReadyH.nil
          refine want (by kernel_rfl) ?_
          refine opCall (ent_Meet _ _ _ _ _ _ _ _ _ _) ?_
          refine (MeetK I12.out I15.out (by omega) (by omega)).mono ?_
          rintro e y16 ⟨v16, rfl, hs, hb, -⟩
          clear I12 I15
          replace S9 := Lib.hid (SpansIn.below S9.out hb (Nat.le_refl _))
          replace hk := kc hb hk
          clear hb hHeld
          have I16 := Lib.hid hs
          clear hs
          refine hK.out _ _ (KP.out _ hk) (fun hHeld => ?_)
          clear hK K
          try (conv => arg 8; simp only [Act.put, List.setIfInBounds_toArray, List.set_cons_zero, List.set_cons_succ])
          refine wpAnyH_ready (rs := [17]) (by kernel_rfl) (by simp) ?_
          refine AllReadyH.cons (o := { dst := some 33, op := Op.call { callee := Callee.value (Operand.func 15), args := #[Operand.tmp 32], argTypes := #[26] }, type := 22, pos := "law.go:151", after := #[{ on := 16, ground := Ground.data }, { on := 16, ground := Ground.chain }, { on := 5, ground := Ground.guard }], guard := some (5, true) }) rfl (fun K hK => ?_) AllReadyH.nil
          refine want (by kernel_rfl) ?_
          refine opCall (ent_All _ _ _ _ _ _ _ _ _) ?_
          refine (AllK I16.out (by omega)).mono ?_
          rintro e y17 ⟨K17, q17, c17, rfl, kx, mx, -, lx, sx, hb⟩
          clear I16
          replace S9 := Lib.hid (SpansIn.below S9.out hb (Nat.le_refl _))
          replace hk := kc hb hk
          clear hb hHeld
          have H17 : Hid (Canon K17 ∧ (∀ d, Mem K17 d ↔ (hasB [(a, b)] d && hasB [(a', b')] d) = true) ∧ K17.length ≤ (2 * 2 + 2 * 2)) := Lib.hid ⟨kx, mx, lx⟩
          have S17 := Lib.hid sx
          clear kx mx lx sx
          refine hK.out _ _ (KP.out _ hk) (fun hHeld => ?_)
          clear hK K
          try (conv => arg 8; simp only [Act.put, List.setIfInBounds_toArray, List.set_cons_zero, List.set_cons_succ])
          refine wpAnyH_ready (rs := [18]) (by kernel_rfl) (by simp) ?_
          refine AllReadyH.cons (o := { dst := some 34, op := Op.call { callee := Callee.value (Operand.func 14), args := #[Operand.tmp 25, Operand.tmp 33], argTypes := #[22, 22] }, type := 4, pos := "law.go:151", after := #[{ on := 9, ground := Ground.data }, { on := 17, ground := Ground.data }, { on := 17, ground := Ground.chain }, { on := 5, ground := Ground.guard }], guard := some (5, true) }) rfl (fun K hK => ?_) AllReadyH.nil
          refine want (by kernel_rfl) ?_
          refine opCall (ent_Same _ _ _ _ _ _ _ _ _ _) ?_
          refine (SameK S9.out S17.out (by have := H9.out.2.2; omega) (canon_eq H9.out.1 H17.out.1 H9.out.2.1 H17.out.2.1 (fun d => HX.out d))).mono ?_
          rintro e y18 ⟨rfl, hb⟩
          clear S9 S17
          clear H9 H17
          replace hk := kc hb hk
          clear hb hHeld
          refine hK.out _ _ (KP.out _ hk) (fun hHeld => ?_)
          clear hK K
          try (conv => arg 8; simp only [Act.put, List.setIfInBounds_toArray, List.set_cons_zero, List.set_cons_succ])
          exact J1.out _ _ _ _ (by kernel_rfl) (by kernel_rfl) ⟨⟨_, _, _, _, _, _, _, _, _, _, _, _, _, _, _, _, _, _, _, _, _, _, _, _, _, _, _, _, _, _, _, _, _, _, _, _, _, _, _, _, _, _, _, _, _, _, _, _, _, _, _, _, _, _, _, _, rfl⟩, hk⟩
        refine AllReadyH.cons (o := { dst := some 30, op := Op.buildSlice 22 1 #[(0, Operand.tmp 29)], type := 22, pos := "law.go:151", after := #[{ on := 13, ground := Ground.data }, { on := 5, ground := Ground.guard }], guard := some (5, true) }) rfl (fun K hK => ?_) AllReadyH.nil
        refine want (by kernel_rfl) ?_
        refine opOne 30 (.tmp 29) (a') (b') rfl rfl rfl ?_
        intro g14 y14 F14 hb
        replace I8 := Lib.hid (IsSet.below I8.out hb (Nat.le_refl _))
        replace F11 := Lib.hid (SpansIn.below F11.out hb (Nat.le_refl _))
        replace hk := kc hb hk
        clear hb hHeld
        refine hK.out _ _ (KP.out _ hk) (fun hHeld => ?_)
        clear hK K
        try (conv => arg 8; simp only [Act.put, List.setIfInBounds_toArray, List.set_cons_zero, List.set_cons_succ])
        refine wpAnyH_ready (rs := [9]) (by kernel_rfl) (by simp) ?_
        refine AllReadyH.cons (o := { dst := some 25, op := Op.call { callee := Callee.value (Operand.func 15), args := #[Operand.tmp 24], argTypes := #[26] }, type := 22, pos := "law.go:151", after := #[{ on := 8, ground := Ground.data }, { on := 8, ground := Ground.chain }, { on := 5, ground := Ground.guard }], guard := some (5, true) }) rfl (fun K hK => ?_) AllReadyH.nil
        refine want (by kernel_rfl) ?_
        refine opCall (ent_All _ _ _ _ _ _ _ _ _) ?_
        refine (AllK I8.out (by omega)).mono ?_
        rintro e y9 ⟨K9, q9, c9, rfl, kx, mx, -, lx, sx, hb⟩
        clear I8
        replace F11 := Lib.hid (SpansIn.below F11.out hb (Nat.le_refl _))
        replace F14 := Lib.hid (SpansIn.below F14.out hb (Nat.le_refl _))
        replace hk := kc hb hk
        clear hb hHeld
        have H9 : Hid (Canon K9 ∧ (∀ d, Mem K9 d ↔ hasB [(X0, Y0)] d = true) ∧ K9.length ≤ 2) := Lib.hid ⟨kx, mx, lx⟩
        have S9 := Lib.hid sx
        clear kx mx lx sx
        refine hK.out _ _ (KP.out _ hk) (fun hHeld => ?_)
        clear hK K
        try (conv => arg 8; simp only [Act.put, List.setIfInBounds_toArray, List.set_cons_zero, List.set_cons_succ])
        refine wpAnyH_ready (rs := [12]) (by kernel_rfl) (by simp) ?_
        refine AllReadyH.cons (o := { dst := some 28, op := Op.call { callee := Callee.value (Operand.func 12), args := #[Operand.tmp 27], argTypes := #[22] }, type := 26, pos := "law.go:151", after := #[{ on := 11, ground := Ground.data }, { on := 9, ground := Ground.chain }, { on := 5, ground := Ground.guard }], guard := some (5, true) }) rfl (fun K hK => ?_) AllReadyH.nil
        refine want (by kernel_rfl) ?_
        refine opCall (ent_Of _ _ _ _ _ _ _ _ _) ?_
        refine (OfOne _ _ (a) (b) _ H64A.out.1 H64A.out.2 F11.out).mono ?_
        rintro e y12 ⟨v12, rfl, hs, hb, -⟩
        clear F11
        replace F14 := Lib.hid (SpansIn.below F14.out hb (Nat.le_refl _))
        replace S9 := Lib.hid (SpansIn.below S9.out hb (Nat.le_refl _))
        replace hk := kc hb hk
        clear hb hHeld
        have I12 := Lib.hid hs
        clear hs
        refine hK.out _ _ (KP.out _ hk) (fun hHeld => ?_)
        clear hK K
        try (conv => arg 8; simp only [Act.put, List.setIfInBounds_toArray, List.set_cons_zero, List.set_cons_succ])
        refine wpAnyH_ready (rs := [15]) (by kernel_rfl) (by simp) ?_
        refine AllReadyH.cons (o := { dst := some 31, op := Op.call { callee := Callee.value (Operand.func 12), args := #[Operand.tmp 30], argTypes := #[22] }, type := 26, pos := "law.go:151", after := #[{ on := 14, ground := Ground.data }, { on := 12, ground := Ground.chain }, { on := 5, ground := Ground.guard }], guard := some (5, true) }) rfl (fun K hK => ?_) AllReadyH.nil
        refine want (by kernel_rfl) ?_
        refine opCall (ent_Of _ _ _ _ _ _ _ _ _) ?_
        refine (OfOne _ _ (a') (b') _ H64B.out.1 H64B.out.2 F14.out).mono ?_
        rintro e y15 ⟨v15, rfl, hs, hb, -⟩
        clear F14
        replace S9 := Lib.hid (SpansIn.below S9.out hb (Nat.le_refl _))
        replace I12 := Lib.hid (IsSet.below I12.out hb (Nat.le_refl _))
        replace hk := kc hb hk
        clear hb hHeld
        have I15 := Lib.hid hs
        clear hs
        refine hK.out _ _ (KP.out _ hk) (fun hHeld => ?_)
        clear hK K
        try (conv => arg 8; simp only [Act.put, List.setIfInBounds_toArray, List.set_cons_zero, List.set_cons_succ])
        refine wpAnyH_ready (rs := [16]) (by kernel_rfl) (by simp) ?_
        refine AllReadyH.cons (o := { dst := some 32, op := Op.call { callee := Callee.value (Operand.func 18), args := #[Operand.tmp 28, Operand.tmp 31], argTypes := #[26, 26] }, type := 26, pos := "law.go:151", after := #[{ on := 12, ground := Ground.data }, { on := 15, ground := Ground.data }, { on := 15, ground := Ground.chain }, { on := 5, ground := Ground.guard }], guard := some (5, true) }) rfl (fun K hK => ?_) AllReadyH.nil
        refine want (by kernel_rfl) ?_
        refine opCall (ent_Meet _ _ _ _ _ _ _ _ _ _) ?_
        refine (MeetK I12.out I15.out (by omega) (by omega)).mono ?_
        rintro e y16 ⟨v16, rfl, hs, hb, -⟩
        clear I12 I15
        replace S9 := Lib.hid (SpansIn.below S9.out hb (Nat.le_refl _))
        replace hk := kc hb hk
        clear hb hHeld
        have I16 := Lib.hid hs
        clear hs
        refine hK.out _ _ (KP.out _ hk) (fun hHeld => ?_)
        clear hK K
        try (conv => arg 8; simp only [Act.put, List.setIfInBounds_toArray, List.set_cons_zero, List.set_cons_succ])
        refine wpAnyH_ready (rs := [17]) (by kernel_rfl) (by simp) ?_
        refine AllReadyH.cons (o := { dst := some 33, op := Op.call { callee := Callee.value (Operand.func 15), args := #[Operand.tmp 32], argTypes := #[26] }, type := 22, pos := "law.go:151", after := #[{ on := 16, ground := Ground.data }, { on := 16, ground := Ground.chain }, { on := 5, ground := Ground.guard }], guard := some (5, true) }) rfl (fun K hK => ?_) AllReadyH.nil
        refine want (by kernel_rfl) ?_
        refine opCall (ent_All _ _ _ _ _ _ _ _ _) ?_
        refine (AllK I16.out (by omega)).mono ?_
        rintro e y17 ⟨K17, q17, c17, rfl, kx, mx, -, lx, sx, hb⟩
        clear I16
        replace S9 := Lib.hid (SpansIn.below S9.out hb (Nat.le_refl _))
        replace hk := kc hb hk
        clear hb hHeld
        have H17 : Hid (Canon K17 ∧ (∀ d, Mem K17 d ↔ (hasB [(a, b)] d && hasB [(a', b')] d) = true) ∧ K17.length ≤ (2 * 2 + 2 * 2)) := Lib.hid ⟨kx, mx, lx⟩
        have S17 := Lib.hid sx
        clear kx mx lx sx
        refine hK.out _ _ (KP.out _ hk) (fun hHeld => ?_)
        clear hK K
        try (conv => arg 8; simp only [Act.put, List.setIfInBounds_toArray, List.set_cons_zero, List.set_cons_succ])
        refine wpAnyH_ready (rs := [18]) (by kernel_rfl) (by simp) ?_
        refine AllReadyH.cons (o := { dst := some 34, op := Op.call { callee := Callee.value (Operand.func 14), args := #[Operand.tmp 25, Operand.tmp 33], argTypes := #[22, 22] }, type := 4, pos := "law.go:151", after := #[{ on := 9, ground := Ground.data }, { on := 17, ground := Ground.data }, { on := 17, ground := Ground.chain }, { on := 5, ground := Ground.guard }], guard := some (5, true) }) rfl (fun K hK => ?_) AllReadyH.nil
        refine want (by kernel_rfl) ?_
        refine opCall (ent_Same _ _ _ _ _ _ _ _ _ _) ?_
        refine (SameK S9.out S17.out (by have := H9.out.2.2; omega) (canon_eq H9.out.1 H17.out.1 H9.out.2.1 H17.out.2.1 (fun d => HX.out d))).mono ?_
        rintro e y18 ⟨rfl, hb⟩
        clear S9 S17
        clear H9 H17
        replace hk := kc hb hk
        clear hb hHeld
        refine hK.out _ _ (KP.out _ hk) (fun hHeld => ?_)
        clear hK K
        try (conv => arg 8; simp only [Act.put, List.setIfInBounds_toArray, List.set_cons_zero, List.set_cons_succ])
        exact J1.out _ _ _ _ (by kernel_rfl) (by kernel_rfl) ⟨⟨_, _, _, _, _, _, _, _, _, _, _, _, _, _, _, _, _, _, _, _, _, _, _, _, _, _, _, _, _, _, _, _, _, _, _, _, _, _, _, _, _, _, _, _, _, _, _, _, _, _, _, _, _, _, _, _, rfl⟩, hk⟩
      refine AllReadyH.cons (o := { dst := some 30, op := Op.buildSlice 22 1 #[(0, Operand.tmp 29)], type := 22, pos := "law.go:151", after := #[{ on := 13, ground := Ground.data }, { on := 5, ground := Ground.guard }], guard := some (5, true) }) rfl (fun K hK => ?_) AllReadyH.nil
      refine want (by kernel_rfl) ?_
      refine opOne 30 (.tmp 29) (a') (b') rfl rfl rfl ?_
      intro g14 y14 F14 hb
      replace I8 := Lib.hid (IsSet.below I8.out hb (Nat.le_refl _))
      replace hk := kc hb hk
      clear hb hHeld
      refine hK.out _ _ (KP.out _ hk) (fun hHeld => ?_)
      clear hK K
      try (conv => arg 8; simp only [Act.put, List.setIfInBounds_toArray, List.set_cons_zero, List.set_cons_succ])
      refine wpAnyH_ready (rs := [9,11]) (by kernel_rfl) (by simp) ?_
      refine AllReadyH.cons (o := { dst := some 25, op := Op.call { callee := Callee.value (Operand.func 15), args := #[Operand.tmp 24], argTypes := #[26] }, type := 22, pos := "law.go:151", after := #[{ on := 8, ground := Ground.data }, { on := 8, ground := Ground.chain }, { on := 5, ground := Ground.guard }], guard := some (5, true) }) rfl (fun K hK => ?_) ?_
      · as_aux_lemma =>
        refine want (by kernel_rfl) ?_
        refine opCall (ent_All _ _ _ _ _ _ _ _ _) ?_
        refine (AllK I8.out (by omega)).mono ?_
        rintro e y9 ⟨K9, q9, c9, rfl, kx, mx, -, lx, sx, hb⟩
        clear I8
        replace F14 := Lib.hid (SpansIn.below F14.out hb (Nat.le_refl _))
        replace hk := kc hb hk
        clear hb hHeld
        have H9 : Hid (Canon K9 ∧ (∀ d, Mem K9 d ↔ hasB [(X0, Y0)] d = true) ∧ K9.length ≤ 2) := Lib.hid ⟨kx, mx, lx⟩
        have S9 := Lib.hid sx
        clear kx mx lx sx
        refine hK.out _ _ (KP.out _ hk) (fun hHeld => ?_)
        clear hK K
        try (conv => arg 8; simp only [Act.put, List.setIfInBounds_toArray, List.set_cons_zero, List.set_cons_succ])
        refine wpAnyH_ready (rs := [11]) (by kernel_rfl) (by simp) ?_
        refine AllReadyH.cons (o := { dst := some 27, op := Op.buildSlice 22 1 #[(0, Operand.tmp 26)], type := 22, pos := "law.go:151", after := #[{ on := 10, ground := Ground.data }, { on := 5, ground := Ground.guard }], guard := some (5, true) }) rfl (fun K hK => ?_) AllReadyH.nil
        refine want (by kernel_rfl) ?_
        refine opOne 27 (.tmp 26) (a) (b) rfl rfl rfl ?_
        intro g11 y11 F11 hb
        replace F14 := Lib.hid (SpansIn.below F14.out hb (Nat.le_refl _))
        replace S9 := Lib.hid (SpansIn.below S9.out hb (Nat.le_refl _))
        replace hk := kc hb hk
        clear hb hHeld
        refine hK.out _ _ (KP.out _ hk) (fun hHeld => ?_)
        clear hK K
        try (conv => arg 8; simp only [Act.put, List.setIfInBounds_toArray, List.set_cons_zero, List.set_cons_succ])
        refine wpAnyH_ready (rs := [12]) (by kernel_rfl) (by simp) ?_
        refine AllReadyH.cons (o := { dst := some 28, op := Op.call { callee := Callee.value (Operand.func 12), args := #[Operand.tmp 27], argTypes := #[22] }, type := 26, pos := "law.go:151", after := #[{ on := 11, ground := Ground.data }, { on := 9, ground := Ground.chain }, { on := 5, ground := Ground.guard }], guard := some (5, true) }) rfl (fun K hK => ?_) AllReadyH.nil
        refine want (by kernel_rfl) ?_
        refine opCall (ent_Of _ _ _ _ _ _ _ _ _) ?_
        refine (OfOne _ _ (a) (b) _ H64A.out.1 H64A.out.2 F11.out).mono ?_
        rintro e y12 ⟨v12, rfl, hs, hb, -⟩
        clear F11
        replace F14 := Lib.hid (SpansIn.below F14.out hb (Nat.le_refl _))
        replace S9 := Lib.hid (SpansIn.below S9.out hb (Nat.le_refl _))
        replace hk := kc hb hk
        clear hb hHeld
        have I12 := Lib.hid hs
        clear hs
        refine hK.out _ _ (KP.out _ hk) (fun hHeld => ?_)
        clear hK K
        try (conv => arg 8; simp only [Act.put, List.setIfInBounds_toArray, List.set_cons_zero, List.set_cons_succ])
        refine wpAnyH_ready (rs := [15]) (by kernel_rfl) (by simp) ?_
        refine AllReadyH.cons (o := { dst := some 31, op := Op.call { callee := Callee.value (Operand.func 12), args := #[Operand.tmp 30], argTypes := #[22] }, type := 26, pos := "law.go:151", after := #[{ on := 14, ground := Ground.data }, { on := 12, ground := Ground.chain }, { on := 5, ground := Ground.guard }], guard := some (5, true) }) rfl (fun K hK => ?_) AllReadyH.nil
        refine want (by kernel_rfl) ?_
        refine opCall (ent_Of _ _ _ _ _ _ _ _ _) ?_
        refine (OfOne _ _ (a') (b') _ H64B.out.1 H64B.out.2 F14.out).mono ?_
        rintro e y15 ⟨v15, rfl, hs, hb, -⟩
        clear F14
        replace S9 := Lib.hid (SpansIn.below S9.out hb (Nat.le_refl _))
        replace I12 := Lib.hid (IsSet.below I12.out hb (Nat.le_refl _))
        replace hk := kc hb hk
        clear hb hHeld
        have I15 := Lib.hid hs
        clear hs
        refine hK.out _ _ (KP.out _ hk) (fun hHeld => ?_)
        clear hK K
        try (conv => arg 8; simp only [Act.put, List.setIfInBounds_toArray, List.set_cons_zero, List.set_cons_succ])
        refine wpAnyH_ready (rs := [16]) (by kernel_rfl) (by simp) ?_
        refine AllReadyH.cons (o := { dst := some 32, op := Op.call { callee := Callee.value (Operand.func 18), args := #[Operand.tmp 28, Operand.tmp 31], argTypes := #[26, 26] }, type := 26, pos := "law.go:151", after := #[{ on := 12, ground := Ground.data }, { on := 15, ground := Ground.data }, { on := 15, ground := Ground.chain }, { on := 5, ground := Ground.guard }], guard := some (5, true) }) rfl (fun K hK => ?_) AllReadyH.nil
        refine want (by kernel_rfl) ?_
        refine opCall (ent_Meet _ _ _ _ _ _ _ _ _ _) ?_
        refine (MeetK I12.out I15.out (by omega) (by omega)).mono ?_
        rintro e y16 ⟨v16, rfl, hs, hb, -⟩
        clear I12 I15
        replace S9 := Lib.hid (SpansIn.below S9.out hb (Nat.le_refl _))
        replace hk := kc hb hk
        clear hb hHeld
        have I16 := Lib.hid hs
        clear hs
        refine hK.out _ _ (KP.out _ hk) (fun hHeld => ?_)
        clear hK K
        try (conv => arg 8; simp only [Act.put, List.setIfInBounds_toArray, List.set_cons_zero, List.set_cons_succ])
        refine wpAnyH_ready (rs := [17]) (by kernel_rfl) (by simp) ?_
        refine AllReadyH.cons (o := { dst := some 33, op := Op.call { callee := Callee.value (Operand.func 15), args := #[Operand.tmp 32], argTypes := #[26] }, type := 22, pos := "law.go:151", after := #[{ on := 16, ground := Ground.data }, { on := 16, ground := Ground.chain }, { on := 5, ground := Ground.guard }], guard := some (5, true) }) rfl (fun K hK => ?_) AllReadyH.nil
        refine want (by kernel_rfl) ?_
        refine opCall (ent_All _ _ _ _ _ _ _ _ _) ?_
        refine (AllK I16.out (by omega)).mono ?_
        rintro e y17 ⟨K17, q17, c17, rfl, kx, mx, -, lx, sx, hb⟩
        clear I16
        replace S9 := Lib.hid (SpansIn.below S9.out hb (Nat.le_refl _))
        replace hk := kc hb hk
        clear hb hHeld
        have H17 : Hid (Canon K17 ∧ (∀ d, Mem K17 d ↔ (hasB [(a, b)] d && hasB [(a', b')] d) = true) ∧ K17.length ≤ (2 * 2 + 2 * 2)) := Lib.hid ⟨kx, mx, lx⟩
        have S17 := Lib.hid sx
        clear kx mx lx sx
        refine hK.out _ _ (KP.out _ hk) (fun hHeld => ?_)
        clear hK K
        try (conv => arg 8; simp only [Act.put, List.setIfInBounds_toArray, List.set_cons_zero, List.set_cons_succ])
        refine wpAnyH_ready (rs := [18]) (by kernel_rfl) (by simp) ?_
        refine AllReadyH.cons (o := { dst := some 34, op := Op.call { callee := Callee.value (Operand.func 14), args := #[Operand.tmp 25, Operand.tmp 33], argTypes := #[22, 22] }, type := 4, pos := "law.go:151", after := #[{ on := 9, ground := Ground.data }, { on := 17, ground := Ground.data }, { on := 17, ground := Ground.chain }, { on := 5, ground := Ground.guard }], guard := some (5, true) }) rfl (fun K hK => ?_) AllReadyH.nil
        refine want (by kernel_rfl) ?_
        refine opCall (ent_Same _ _ _ _ _ _ _ _ _ _) ?_
        refine (SameK S9.out S17.out (by have := H9.out.2.2; omega) (canon_eq H9.out.1 H17.out.1 H9.out.2.1 H17.out.2.1 (fun d => HX.out d))).mono ?_
        rintro e y18 ⟨rfl, hb⟩
        clear S9 S17
        clear H9 H17
        replace hk := kc hb hk
        clear hb hHeld
        refine hK.out _ _ (KP.out _ hk) (fun hHeld => ?_)
        clear hK K
        try (conv => arg 8; simp only [Act.put, List.setIfInBounds_toArray, List.set_cons_zero, List.set_cons_succ])
        exact J1.out _ _ _ _ (by kernel_rfl) (by kernel_rfl) ⟨⟨_, _, _, _, _, _, _, _, _, _, _, _, _, _, _, _, _, _, _, _, _, _, _, _, _, _, _, _, _, _, _, _, _, _, _, _, _, _, _, _, _, _, _, _, _, _, _, _, _, _, _, _, _, _, _, _, rfl⟩, hk⟩
      refine AllReadyH.cons (o := { dst := some 27, op := Op.buildSlice 22 1 #[(0, Operand.tmp 26)], type := 22, pos := "law.go:151", after := #[{ on := 10, ground := Ground.data }, { on := 5, ground := Ground.guard }], guard := some (5, true) }) rfl (fun K hK => ?_) AllReadyH.nil
      refine want (by kernel_rfl) ?_
      refine opOne 27 (.tmp 26) (a) (b) rfl rfl rfl ?_
      intro g11 y11 F11 hb
      replace I8 := Lib.hid (IsSet.below I8.out hb (Nat.le_refl _))
      replace F14 := Lib.hid (SpansIn.below F14.out hb (Nat.le_refl _))
      replace hk := kc hb hk
      clear hb hHeld
      refine hK.out _ _ (KP.out _ hk) (fun hHeld => ?_)
      clear hK K
      try (conv => arg 8; simp only [Act.put, List.setIfInBounds_toArray, List.set_cons_zero, List.set_cons_succ])
      refine wpAnyH_ready (rs := [9]) (by kernel_rfl) (by simp) ?_
      refine AllReadyH.cons (o := { dst := some 25, op := Op.call { callee := Callee.value (Operand.func 15), args := #[Operand.tmp 24], argTypes := #[26] }, type := 22, pos := "law.go:151", after := #[{ on := 8, ground := Ground.data }, { on := 8, ground := Ground.chain }, { on := 5, ground := Ground.guard }], guard := some (5, true) }) rfl (fun K hK => ?_) AllReadyH.nil
      refine want (by kernel_rfl) ?_
      refine opCall (ent_All _ _ _ _ _ _ _ _ _) ?_
      refine (AllK I8.out (by omega)).mono ?_
      rintro e y9 ⟨K9, q9, c9, rfl, kx, mx, -, lx, sx, hb⟩
      clear I8
      replace F14 := Lib.hid (SpansIn.below F14.out hb (Nat.le_refl _))
      replace F11 := Lib.hid (SpansIn.below F11.out hb (Nat.le_refl _))
      replace hk := kc hb hk
      clear hb hHeld
      have H9 : Hid (Canon K9 ∧ (∀ d, Mem K9 d ↔ hasB [(X0, Y0)] d = true) ∧ K9.length ≤ 2) := Lib.hid ⟨kx, mx, lx⟩
      have S9 := Lib.hid sx
      clear kx mx lx sx
      refine hK.out _ _ (KP.out _ hk) (fun hHeld => ?_)
      clear hK K
      try (conv => arg 8; simp only [Act.put, List.setIfInBounds_toArray, List.set_cons_zero, List.set_cons_succ])
      refine wpAnyH_ready (rs := [12]) (by kernel_rfl) (by simp) ?_
      refine AllReadyH.cons (o := { dst := some 28, op := Op.call { callee := Callee.value (Operand.func 12), args := #[Operand.tmp 27], argTypes := #[22] }, type := 26, pos := "law.go:151", after := #[{ on := 11, ground := Ground.data }, { on := 9, ground := Ground.chain }, { on := 5, ground := Ground.guard }], guard := some (5, true) }) rfl (fun K hK => ?_) AllReadyH.nil
      refine want (by kernel_rfl) ?_
      refine opCall (ent_Of _ _ _ _ _ _ _ _ _) ?_
      refine (OfOne _ _ (a) (b) _ H64A.out.1 H64A.out.2 F11.out).mono ?_
      rintro e y12 ⟨v12, rfl, hs, hb, -⟩
      clear F11
      replace F14 := Lib.hid (SpansIn.below F14.out hb (Nat.le_refl _))
      replace S9 := Lib.hid (SpansIn.below S9.out hb (Nat.le_refl _))
      replace hk := kc hb hk
      clear hb hHeld
      have I12 := Lib.hid hs
      clear hs
      refine hK.out _ _ (KP.out _ hk) (fun hHeld => ?_)
      clear hK K
      try (conv => arg 8; simp only [Act.put, List.setIfInBounds_toArray, List.set_cons_zero, List.set_cons_succ])
      refine wpAnyH_ready (rs := [15]) (by kernel_rfl) (by simp) ?_
      refine AllReadyH.cons (o := { dst := some 31, op := Op.call { callee := Callee.value (Operand.func 12), args := #[Operand.tmp 30], argTypes := #[22] }, type := 26, pos := "law.go:151", after := #[{ on := 14, ground := Ground.data }, { on := 12, ground := Ground.chain }, { on := 5, ground := Ground.guard }], guard := some (5, true) }) rfl (fun K hK => ?_) AllReadyH.nil
      refine want (by kernel_rfl) ?_
      refine opCall (ent_Of _ _ _ _ _ _ _ _ _) ?_
      refine (OfOne _ _ (a') (b') _ H64B.out.1 H64B.out.2 F14.out).mono ?_
      rintro e y15 ⟨v15, rfl, hs, hb, -⟩
      clear F14
      replace S9 := Lib.hid (SpansIn.below S9.out hb (Nat.le_refl _))
      replace I12 := Lib.hid (IsSet.below I12.out hb (Nat.le_refl _))
      replace hk := kc hb hk
      clear hb hHeld
      have I15 := Lib.hid hs
      clear hs
      refine hK.out _ _ (KP.out _ hk) (fun hHeld => ?_)
      clear hK K
      try (conv => arg 8; simp only [Act.put, List.setIfInBounds_toArray, List.set_cons_zero, List.set_cons_succ])
      refine wpAnyH_ready (rs := [16]) (by kernel_rfl) (by simp) ?_
      refine AllReadyH.cons (o := { dst := some 32, op := Op.call { callee := Callee.value (Operand.func 18), args := #[Operand.tmp 28, Operand.tmp 31], argTypes := #[26, 26] }, type := 26, pos := "law.go:151", after := #[{ on := 12, ground := Ground.data }, { on := 15, ground := Ground.data }, { on := 15, ground := Ground.chain }, { on := 5, ground := Ground.guard }], guard := some (5, true) }) rfl (fun K hK => ?_) AllReadyH.nil
      refine want (by kernel_rfl) ?_
      refine opCall (ent_Meet _ _ _ _ _ _ _ _ _ _) ?_
      refine (MeetK I12.out I15.out (by omega) (by omega)).mono ?_
      rintro e y16 ⟨v16, rfl, hs, hb, -⟩
      clear I12 I15
      replace S9 := Lib.hid (SpansIn.below S9.out hb (Nat.le_refl _))
      replace hk := kc hb hk
      clear hb hHeld
      have I16 := Lib.hid hs
      clear hs
      refine hK.out _ _ (KP.out _ hk) (fun hHeld => ?_)
      clear hK K
      try (conv => arg 8; simp only [Act.put, List.setIfInBounds_toArray, List.set_cons_zero, List.set_cons_succ])
      refine wpAnyH_ready (rs := [17]) (by kernel_rfl) (by simp) ?_
      refine AllReadyH.cons (o := { dst := some 33, op := Op.call { callee := Callee.value (Operand.func 15), args := #[Operand.tmp 32], argTypes := #[26] }, type := 22, pos := "law.go:151", after := #[{ on := 16, ground := Ground.data }, { on := 16, ground := Ground.chain }, { on := 5, ground := Ground.guard }], guard := some (5, true) }) rfl (fun K hK => ?_) AllReadyH.nil
      refine want (by kernel_rfl) ?_
      refine opCall (ent_All _ _ _ _ _ _ _ _ _) ?_
      refine (AllK I16.out (by omega)).mono ?_
      rintro e y17 ⟨K17, q17, c17, rfl, kx, mx, -, lx, sx, hb⟩
      clear I16
      replace S9 := Lib.hid (SpansIn.below S9.out hb (Nat.le_refl _))
      replace hk := kc hb hk
      clear hb hHeld
      have H17 : Hid (Canon K17 ∧ (∀ d, Mem K17 d ↔ (hasB [(a, b)] d && hasB [(a', b')] d) = true) ∧ K17.length ≤ (2 * 2 + 2 * 2)) := Lib.hid ⟨kx, mx, lx⟩
      have S17 := Lib.hid sx
      clear kx mx lx sx
      refine hK.out _ _ (KP.out _ hk) (fun hHeld => ?_)
      clear hK K
      try (conv => arg 8; simp only [Act.put, List.setIfInBounds_toArray, List.set_cons_zero, List.set_cons_succ])
      refine wpAnyH_ready (rs := [18]) (by kernel_rfl) (by simp) ?_
      refine AllReadyH.cons (o := { dst := some 34, op := Op.call { callee := Callee.value (Operand.func 14), args := #[Operand.tmp 25, Operand.tmp 33], argTypes := #[22, 22] }, type := 4, pos := "law.go:151", after := #[{ on := 9, ground := Ground.data }, { on := 17, ground := Ground.data }, { on := 17, ground := Ground.chain }, { on := 5, ground := Ground.guard }], guard := some (5, true) }) rfl (fun K hK => ?_) AllReadyH.nil
      refine want (by kernel_rfl) ?_
      refine opCall (ent_Same _ _ _ _ _ _ _ _ _ _) ?_
      refine (SameK S9.out S17.out (by have := H9.out.2.2; omega) (canon_eq H9.out.1 H17.out.1 H9.out.2.1 H17.out.2.1 (fun d => HX.out d))).mono ?_
      rintro e y18 ⟨rfl, hb⟩
      clear S9 S17
      clear H9 H17
      replace hk := kc hb hk
      clear hb hHeld
      refine hK.out _ _ (KP.out _ hk) (fun hHeld => ?_)
      clear hK K
      try (conv => arg 8; simp only [Act.put, List.setIfInBounds_toArray, List.set_cons_zero, List.set_cons_succ])
      exact J1.out _ _ _ _ (by kernel_rfl) (by kernel_rfl) ⟨⟨_, _, _, _, _, _, _, _, _, _, _, _, _, _, _, _, _, _, _, _, _, _, _, _, _, _, _, _, _, _, _, _, _, _, _, _, _, _, _, _, _, _, _, _, _, _, _, _, _, _, _, _, _, _, _, _, rfl⟩, hk⟩
    refine AllReadyH.cons (o := { dst := some 27, op := Op.buildSlice 22 1 #[(0, Operand.tmp 26)], type := 22, pos := "law.go:151", after := #[{ on := 10, ground := Ground.data }, { on := 5, ground := Ground.guard }], guard := some (5, true) }) rfl (fun K hK => ?_) ?_
    · as_aux_lemma =>
      refine want (by kernel_rfl) ?_
      refine opOne 27 (.tmp 26) (a) (b) rfl rfl rfl ?_
      intro g11 y11 F11 hb
      replace F7 := Lib.hid (SpansIn.below F7.out hb (Nat.le_refl _))
      replace hk := kc hb hk
      clear hb hHeld
      refine hK.out _ _ (KP.out _ hk) (fun hHeld => ?_)
      clear hK K
      try (conv => arg 8; simp only [Act.put, List.setIfInBounds_toArray, List.set_cons_zero, List.set_cons_succ])
      refine wpAnyH_ready (rs := [8,14]) (by kernel_rfl) (by simp) ?_
      refine AllReadyH.cons (o := { dst := some 24, op := Op.call { callee := Callee.value (Operand.func 12), args := #[Operand.tmp 23], argTypes := #[22] }, type := 26, pos := "law.go:151", after := #[{ on := 7, ground := Ground.data }, { on := 5, ground := Ground.chain }, { on := 5, ground := Ground.guard }], guard := some (5, true) }) rfl (fun K hK => ?_) ?_
      · as_aux_lemma =>
        refine want (by kernel_rfl) ?_
        refine opCall (ent_Of _ _ _ _ _ _ _ _ _) ?_
        refine (OfOne _ _ (X0) (Y0) _ H64X.out.1 H64X.out.2 F7.out).mono ?_
        rintro e y8 ⟨v8, rfl, hs, hb, -⟩
        clear F7
        replace F11 := Lib.hid (SpansIn.below F11.out hb (Nat.le_refl _))
        replace hk := kc hb hk
        clear hb hHeld
        have I8 := Lib.hid hs
        clear hs
        refine hK.out _ _ (KP.out _ hk) (fun hHeld => ?_)
        clear hK K
        try (conv => arg 8; simp only [Act.put, List.setIfInBounds_toArray, List.set_cons_zero, List.set_cons_succ])
        refine wpAnyH_ready (rs := [9,14]) (by kernel_rfl) (by simp) ?_
        refine AllReadyH.cons (o := { dst := some 25, op := Op.call { callee := Callee.value (Operand.func 15), args := #[Operand.tmp 24], argTypes := #[26] }, type := 22, pos := "law.go:151", after := #[{ on := 8, ground := Ground.data }, { on := 8, ground := Ground.chain }, { on := 5, ground := Ground.guard }], guard := some (5, true) }) rfl (fun K hK => ?_) ?_
        · as_aux_lemma =>
          refine want (by kernel_rfl) ?_
          refine opCall (ent_All _ _ _ _ _ _ _ _ _) ?_
          refine (AllK I8.out (by omega)).mono ?_
          rintro e y9 ⟨K9, q9, c9, rfl, kx, mx, -, lx, sx, hb⟩
          clear I8
          replace F11 := Lib.hid (SpansIn.below F11.out hb (Nat.le_refl _))
          replace hk := kc hb hk
          clear hb hHeld
          have H9 : Hid (Canon K9 ∧ (∀ d, Mem K9 d ↔ hasB [(X0, Y0)] d = true) ∧ K9.length ≤ 2) := Lib.hid ⟨kx, mx, lx⟩
          have S9 := Lib.hid sx
          clear kx mx lx sx
          refine hK.out _ _ (KP.out _ hk) (fun hHeld => ?_)
          clear hK K
          try (conv => arg 8; simp only [Act.put, List.setIfInBounds_toArray, List.set_cons_zero, List.set_cons_succ])
          refine wpAnyH_ready (rs := [12,14]) (by kernel_rfl) (by simp) ?_
          refine AllReadyH.cons (o := { dst := some 28, op := Op.call { callee := Callee.value (Operand.func 12), args := #[Operand.tmp 27], argTypes := #[22] }, type := 26, pos := "law.go:151", after := #[{ on := 11, ground := Ground.data }, { on := 9, ground := Ground.chain }, { on := 5, ground := Ground.guard }], guard := some (5, true) }) rfl (fun K hK => ?_) ?_
          · as_aux_lemma =>
            refine want (by kernel_rfl) ?_
            refine opCall (ent_Of _ _ _ _ _ _ _ _ _) ?_
            refine (OfOne _ _ (a) (b) _ H64A.out.1 H64A.out.2 F11.out).mono ?_
            rintro e y12 ⟨v12, rfl, hs, hb, -⟩
            clear F11
            replace S9 := Lib.hid (SpansIn.below S9.out hb (Nat.le_refl _))
            replace hk := kc hb hk
            clear hb hHeld
            have I12 := Lib.hid hs
            clear hs
            refine hK.out _ _ (KP.out _ hk) (fun hHeld => ?_)
            clear hK K
            try (conv => arg 8; simp only [Act.put, List.setIfInBounds_toArray, List.set_cons_zero, List.set_cons_succ])
            refine wpAnyH_ready (rs := [14]) (by kernel_rfl) (by simp) ?_
            refine AllReadyH.cons (o := { dst := some 30, op := Op.buildSlice 22 1 #[(0, Operand.tmp 29)], type := 22, pos := "law.go:151", after := #[{ on := 13, ground := Ground.data }, { on := 5, ground := Ground.guard }], guard := some (5, true) }) rfl (fun K hK => ?_) AllReadyH.nil
            refine want (by kernel_rfl) ?_
            refine opOne 30 (.tmp 29) (a') (b') rfl rfl rfl ?_
            intro g14 y14 F14 hb
            replace S9 := Lib.hid (SpansIn.below S9.out hb (Nat.le_refl _))
            replace I12 := Lib.hid (IsSet.below I12.out hb (Nat.le_refl _))
            replace hk := kc hb hk
            clear hb hHeld
            refine hK.out _ _ (KP.out _ hk) (fun hHeld => ?_)
            clear hK K
            try (conv => arg 8; simp only [Act.put, List.setIfInBounds_toArray, List.set_cons_zero, List.set_cons_succ])
            refine wpAnyH_ready (rs := [15]) (by kernel_rfl) (by simp) ?_
            refine AllReadyH.cons (o := { dst := some 31, op := Op.call { callee := Callee.value (Operand.func 12), args := #[Operand.tmp 30], argTypes := #[22] }, type := 26, pos := "law.go:151", after := #[{ on := 14, ground := Ground.data }, { on := 12, ground := Ground.chain }, { on := 5, ground := Ground.guard }], guard := some (5, true) }) rfl (fun K hK => ?_) AllReadyH.nil
            refine want (by kernel_rfl) ?_
            refine opCall (ent_Of _ _ _ _ _ _ _ _ _) ?_
            refine (OfOne _ _ (a') (b') _ H64B.out.1 H64B.out.2 F14.out).mono ?_
            rintro e y15 ⟨v15, rfl, hs, hb, -⟩
            clear F14
            replace S9 := Lib.hid (SpansIn.below S9.out hb (Nat.le_refl _))
            replace I12 := Lib.hid (IsSet.below I12.out hb (Nat.le_refl _))
            replace hk := kc hb hk
            clear hb hHeld
            have I15 := Lib.hid hs
            clear hs
            refine hK.out _ _ (KP.out _ hk) (fun hHeld => ?_)
            clear hK K
            try (conv => arg 8; simp only [Act.put, List.setIfInBounds_toArray, List.set_cons_zero, List.set_cons_succ])
            refine wpAnyH_ready (rs := [16]) (by kernel_rfl) (by simp) ?_
            refine AllReadyH.cons (o := { dst := some 32, op := Op.call { callee := Callee.value (Operand.func 18), args := #[Operand.tmp 28, Operand.tmp 31], argTypes := #[26, 26] }, type := 26, pos := "law.go:151", after := #[{ on := 12, ground := Ground.data }, { on := 15, ground := Ground.data }, { on := 15, ground := Ground.chain }, { on := 5, ground := Ground.guard }], guard := some (5, true) }) rfl (fun K hK => ?_) AllReadyH.nil
            refine want (by kernel_rfl) ?_
            refine opCall (ent_Meet _ _ _ _ _ _ _ _ _ _) ?_
            refine (MeetK I12.out I15.out (by omega) (by omega)).mono ?_
            rintro e y16 ⟨v16, rfl, hs, hb, -⟩
            clear I12 I15
            replace S9 := Lib.hid (SpansIn.below S9.out hb (Nat.le_refl _))
            replace hk := kc hb hk
            clear hb hHeld
            have I16 := Lib.hid hs
            clear hs
            refine hK.out _ _ (KP.out _ hk) (fun hHeld => ?_)
            clear hK K
            try (conv => arg 8; simp only [Act.put, List.setIfInBounds_toArray, List.set_cons_zero, List.set_cons_succ])
            refine wpAnyH_ready (rs := [17]) (by kernel_rfl) (by simp) ?_
            refine AllReadyH.cons (o := { dst := some 33, op := Op.call { callee := Callee.value (Operand.func 15), args := #[Operand.tmp 32], argTypes := #[26] }, type := 22, pos := "law.go:151", after := #[{ on := 16, ground := Ground.data }, { on := 16, ground := Ground.chain }, { on := 5, ground := Ground.guard }], guard := some (5, true) }) rfl (fun K hK => ?_) AllReadyH.nil
            refine want (by kernel_rfl) ?_
            refine opCall (ent_All _ _ _ _ _ _ _ _ _) ?_
            refine (AllK I16.out (by omega)).mono ?_
            rintro e y17 ⟨K17, q17, c17, rfl, kx, mx, -, lx, sx, hb⟩
            clear I16
            replace S9 := Lib.hid (SpansIn.below S9.out hb (Nat.le_refl _))
            replace hk := kc hb hk
            clear hb hHeld
            have H17 : Hid (Canon K17 ∧ (∀ d, Mem K17 d ↔ (hasB [(a, b)] d && hasB [(a', b')] d) = true) ∧ K17.length ≤ (2 * 2 + 2 * 2)) := Lib.hid ⟨kx, mx, lx⟩
            have S17 := Lib.hid sx
            clear kx mx lx sx
            refine hK.out _ _ (KP.out _ hk) (fun hHeld => ?_)
            clear hK K
            try (conv => arg 8; simp only [Act.put, List.setIfInBounds_toArray, List.set_cons_zero, List.set_cons_succ])
            refine wpAnyH_ready (rs := [18]) (by kernel_rfl) (by simp) ?_
            refine AllReadyH.cons (o := { dst := some 34, op := Op.call { callee := Callee.value (Operand.func 14), args := #[Operand.tmp 25, Operand.tmp 33], argTypes := #[22, 22] }, type := 4, pos := "law.go:151", after := #[{ on := 9, ground := Ground.data }, { on := 17, ground := Ground.data }, { on := 17, ground := Ground.chain }, { on := 5, ground := Ground.guard }], guard := some (5, true) }) rfl (fun K hK => ?_) AllReadyH.nil
            refine want (by kernel_rfl) ?_
            refine opCall (ent_Same _ _ _ _ _ _ _ _ _ _) ?_
            refine (SameK S9.out S17.out (by have := H9.out.2.2; omega) (canon_eq H9.out.1 H17.out.1 H9.out.2.1 H17.out.2.1 (fun d => HX.out d))).mono ?_
            rintro e y18 ⟨rfl, hb⟩
            clear S9 S17
            clear H9 H17
            replace hk := kc hb hk
            clear hb hHeld
            refine hK.out _ _ (KP.out _ hk) (fun hHeld => ?_)
            clear hK K
            try (conv => arg 8; simp only [Act.put, List.setIfInBounds_toArray, List.set_cons_zero, List.set_cons_succ])
            exact J1.out _ _ _ _ (by kernel_rfl) (by kernel_rfl) ⟨⟨_, _, _, _, _, _, _, _, _, _, _, _, _, _, _, _, _, _, _, _, _, _, _, _, _, _, _, _, _, _, _, _, _, _, _, _, _, _, _, _, _, _, _, _, _, _, _, _, _, _, _, _, _, _, _, _, rfl⟩, hk⟩
          refine AllReadyH.cons (o := { dst := some 30, op := Op.buildSlice 22 1 #[(0, Operand.tmp 29)], type := 22, pos := "law.go:151", after := #[{ on := 13, ground := Ground.data }, { on := 5, ground := Ground.guard }], guard := some (5, true) }) rfl (fun K hK => ?_) AllReadyH.nil
          refine want (by kernel_rfl) ?_
          refine opOne 30 (.tmp 29) (a') (b') rfl rfl rfl ?_
          intro g14 y14 F14 hb
          replace F11 := Lib.hid (SpansIn.below F11.out hb (Nat.le_refl _))
          replace S9 := Lib.hid (SpansIn.below S9.out hb (Nat.le_refl _))
          replace hk := kc hb hk
          clear hb hHeld
          refine hK.out _ _ (KP.out _ hk) (fun hHeld => ?_)
          clear hK K
          try (conv => arg 8; simp only [Act.put, List.setIfInBounds_toArray, List.set_cons_zero, List.set_cons_succ])
          refine wpAnyH_ready (rs := [12]) (by kernel_rfl) (by simp) ?_
          refine AllReadyH.cons (o := { dst := some 28, op := Op.call { callee := Callee.value (Operand.func 12), args := #[Operand.tmp 27], argTypes := #[22] }, type := 26, pos := "law.go:151", after := #[{ on := 11, ground := Ground.data }, { on := 9, ground := Ground.chain }, { on := 5, ground := Ground.guard }], guard := some (5, true) }) rfl (fun K hK => ?_) AllReadyH.nil
          refine want (by kernel_rfl) ?_
          refine opCall (ent_Of _ _ _ _ _ _ _ _ _) ?_
          refine (OfOne _ _ (a) (b) _ H64A.out.1 H64A.out.2 F11.out).mono ?_
          rintro e y12 ⟨v12, rfl, hs, hb, -⟩
          clear F11
          replace S9 := Lib.hid (SpansIn.below S9.out hb (Nat.le_refl _))
          replace F14 := Lib.hid (SpansIn.below F14.out hb (Nat.le_refl _))
          replace hk := kc hb hk
          clear hb hHeld
          have I12 := Lib.hid hs
          clear hs
          refine hK.out _ _ (KP.out _ hk) (fun hHeld => ?_)
          clear hK K
          try (conv => arg 8; simp only [Act.put, List.setIfInBounds_toArray, List.set_cons_zero, List.set_cons_succ])
          refine wpAnyH_ready (rs := [15]) (by kernel_rfl) (by simp) ?_
          refine AllReadyH.cons (o := { dst := some 31, op := Op.call { callee := Callee.value (Operand.func 12), args := #[Operand.tmp 30], argTypes := #[22] }, type := 26, pos := "law.go:151", after := #[{ on := 14, ground := Ground.data }, { on := 12, ground := Ground.chain }, { on := 5, ground := Ground.guard }], guard := some (5, true) }) rfl (fun K hK => ?_) AllReadyH.nil
          refine want (by kernel_rfl) ?_
          refine opCall (ent_Of _ _ _ _ _ _ _ _ _) ?_
          refine (OfOne _ _ (a') (b') _ H64B.out.1 H64B.out.2 F14.out).mono ?_
          rintro e y15 ⟨v15, rfl, hs, hb, -⟩
          clear F14
          replace S9 := Lib.hid (SpansIn.below S9.out hb (Nat.le_refl _))
          replace I12 := Lib.hid (IsSet.below I12.out hb (Nat.le_refl _))
          replace hk := kc hb hk
          clear hb hHeld
          have I15 := Lib.hid hs
          clear hs
          refine hK.out _ _ (KP.out _ hk) (fun hHeld => ?_)
          clear hK K
          try (conv => arg 8; simp only [Act.put, List.setIfInBounds_toArray, List.set_cons_zero, List.set_cons_succ])
          refine wpAnyH_ready (rs := [16]) (by kernel_rfl) (by simp) ?_
          refine AllReadyH.cons (o := { dst := some 32, op := Op.call { callee := Callee.value (Operand.func 18), args := #[Operand.tmp 28, Operand.tmp 31], argTypes := #[26, 26] }, type := 26, pos := "law.go:151", after := #[{ on := 12, ground := Ground.data }, { on := 15, ground := Ground.data }, { on := 15, ground := Ground.chain }, { on := 5, ground := Ground.guard }], guard := some (5, true) }) rfl (fun K hK => ?_) AllReadyH.nil
          refine want (by kernel_rfl) ?_
          refine opCall (ent_Meet _ _ _ _ _ _ _ _ _ _) ?_
          refine (MeetK I12.out I15.out (by omega) (by omega)).mono ?_
          rintro e y16 ⟨v16, rfl, hs, hb, -⟩
          clear I12 I15
          replace S9 := Lib.hid (SpansIn.below S9.out hb (Nat.le_refl _))
          replace hk := kc hb hk
          clear hb hHeld
          have I16 := Lib.hid hs
          clear hs
          refine hK.out _ _ (KP.out _ hk) (fun hHeld => ?_)
          clear hK K
          try (conv => arg 8; simp only [Act.put, List.setIfInBounds_toArray, List.set_cons_zero, List.set_cons_succ])
          refine wpAnyH_ready (rs := [17]) (by kernel_rfl) (by simp) ?_
          refine AllReadyH.cons (o := { dst := some 33, op := Op.call { callee := Callee.value (Operand.func 15), args := #[Operand.tmp 32], argTypes := #[26] }, type := 22, pos := "law.go:151", after := #[{ on := 16, ground := Ground.data }, { on := 16, ground := Ground.chain }, { on := 5, ground := Ground.guard }], guard := some (5, true) }) rfl (fun K hK => ?_) AllReadyH.nil
          refine want (by kernel_rfl) ?_
          refine opCall (ent_All _ _ _ _ _ _ _ _ _) ?_
          refine (AllK I16.out (by omega)).mono ?_
          rintro e y17 ⟨K17, q17, c17, rfl, kx, mx, -, lx, sx, hb⟩
          clear I16
          replace S9 := Lib.hid (SpansIn.below S9.out hb (Nat.le_refl _))
          replace hk := kc hb hk
          clear hb hHeld
          have H17 : Hid (Canon K17 ∧ (∀ d, Mem K17 d ↔ (hasB [(a, b)] d && hasB [(a', b')] d) = true) ∧ K17.length ≤ (2 * 2 + 2 * 2)) := Lib.hid ⟨kx, mx, lx⟩
          have S17 := Lib.hid sx
          clear kx mx lx sx
          refine hK.out _ _ (KP.out _ hk) (fun hHeld => ?_)
          clear hK K
          try (conv => arg 8; simp only [Act.put, List.setIfInBounds_toArray, List.set_cons_zero, List.set_cons_succ])
          refine wpAnyH_ready (rs := [18]) (by kernel_rfl) (by simp) ?_
          refine AllReadyH.cons (o := { dst := some 34, op := Op.call { callee := Callee.value (Operand.func 14), args := #[Operand.tmp 25, Operand.tmp 33], argTypes := #[22, 22] }, type := 4, pos := "law.go:151", after := #[{ on := 9, ground := Ground.data }, { on := 17, ground := Ground.data }, { on := 17, ground := Ground.chain }, { on := 5, ground := Ground.guard }], guard := some (5, true) }) rfl (fun K hK => ?_) AllReadyH.nil
          refine want (by kernel_rfl) ?_
          refine opCall (ent_Same _ _ _ _ _ _ _ _ _ _) ?_
          refine (SameK S9.out S17.out (by have := H9.out.2.2; omega) (canon_eq H9.out.1 H17.out.1 H9.out.2.1 H17.out.2.1 (fun d => HX.out d))).mono ?_
          rintro e y18 ⟨rfl, hb⟩
          clear S9 S17
          clear H9 H17
          replace hk := kc hb hk
          clear hb hHeld
          refine hK.out _ _ (KP.out _ hk) (fun hHeld => ?_)
          clear hK K
          try (conv => arg 8; simp only [Act.put, List.setIfInBounds_toArray, List.set_cons_zero, List.set_cons_succ])
          exact J1.out _ _ _ _ (by kernel_rfl) (by kernel_rfl) ⟨⟨_, _, _, _, _, _, _, _, _, _, _, _, _, _, _, _, _, _, _, _, _, _, _, _, _, _, _, _, _, _, _, _, _, _, _, _, _, _, _, _, _, _, _, _, _, _, _, _, _, _, _, _, _, _, _, _, rfl⟩, hk⟩
        refine AllReadyH.cons (o := { dst := some 30, op := Op.buildSlice 22 1 #[(0, Operand.tmp 29)], type := 22, pos := "law.go:151", after := #[{ on := 13, ground := Ground.data }, { on := 5, ground := Ground.guard }], guard := some (5, true) }) rfl (fun K hK => ?_) AllReadyH.nil
        refine want (by kernel_rfl) ?_
        refine opOne 30 (.tmp 29) (a') (b') rfl rfl rfl ?_
        intro g14 y14 F14 hb
        replace F11 := Lib.hid (SpansIn.below F11.out hb (Nat.le_refl _))
        replace I8 := Lib.hid (IsSet.below I8.out hb (Nat.le_refl _))
        replace hk := kc hb hk
        clear hb hHeld
        refine hK.out _ _ (KP.out _ hk) (fun hHeld => ?_)
        clear hK K
        try (conv => arg 8; simp only [Act.put, List.setIfInBounds_toArray, List.set_cons_zero, List.set_cons_succ])
        refine wpAnyH_ready (rs := [9]) (by kernel_rfl) (by simp) ?_
        refine AllReadyH.cons (o := { dst := some 25, op := Op.call { callee := Callee.value (Operand.func 15), args := #[Operand.tmp 24], argTypes := #[26] }, type := 22, pos := "law.go:151", after := #[{ on := 8, ground := Ground.data }, { on := 8, ground := Ground.chain }, { on := 5, ground := Ground.guard }], guard := some (5, true) }) rfl (fun K hK => ?_) AllReadyH.nil
        refine want (by kernel_rfl) ?_
        refine opCall (ent_All _ _ _ _ _ _ _ _ _) ?_
        refine (AllK I8.out (by omega)).mono ?_
        rintro e y9 ⟨K9, q9, c9, rfl, kx, mx, -, lx, sx, hb⟩
        clear I8
        replace F11 := Lib.hid (SpansIn.below F11.out hb (Nat.le_refl _))
        replace F14 := Lib.hid (SpansIn.below F14.out hb (Nat.le_refl _))
        replace hk := kc hb hk
        clear hb hHeld
        have H9 : Hid (Canon K9 ∧ (∀ d, Mem K9 d ↔ hasB [(X0, Y0)] d = true) ∧ K9.length ≤ 2) := Lib.hid ⟨kx, mx, lx⟩
        have S9 := Lib.hid sx
        clear kx mx lx sx
        refine hK.out _ _ (KP.out _ hk) (fun hHeld => ?_)
        clear hK K
        try (conv => arg 8; simp only [Act.put, List.setIfInBounds_toArray, List.set_cons_zero, List.set_cons_succ])
        refine wpAnyH_ready (rs := [12]) (by kernel_rfl) (by simp) ?_
        refine AllReadyH.cons (o := { dst := some 28, op := Op.call { callee := Callee.value (Operand.func 12), args := #[Operand.tmp 27], argTypes := #[22] }, type := 26, pos := "law.go:151", after := #[{ on := 11, ground := Ground.data }, { on := 9, ground := Ground.chain }, { on := 5, ground := Ground.guard }], guard := some (5, true) }) rfl (fun K hK => ?_) AllReadyH.nil
        refine want (by kernel_rfl) ?_
        refine opCall (ent_Of _ _ _ _ _ _ _ _ _) ?_
        refine (OfOne _ _ (a) (b) _ H64A.out.1 H64A.out.2 F11.out).mono ?_
        rintro e y12 ⟨v12, rfl, hs, hb, -⟩
        clear F11
        replace F14 := Lib.hid (SpansIn.below F14.out hb (Nat.le_refl _))
        replace S9 := Lib.hid (SpansIn.below S9.out hb (Nat.le_refl _))
        replace hk := kc hb hk
        clear hb hHeld
        have I12 := Lib.hid hs
        clear hs
        refine hK.out _ _ (KP.out _ hk) (fun hHeld => ?_)
        clear hK K
        try (conv => arg 8; simp only [Act.put, List.setIfInBounds_toArray, List.set_cons_zero, List.set_cons_succ])
        refine wpAnyH_ready (rs := [15]) (by kernel_rfl) (by simp) ?_
        refine AllReadyH.cons (o := { dst := some 31, op := Op.call { callee := Callee.value (Operand.func 12), args := #[Operand.tmp 30], argTypes := #[22] }, type := 26, pos := "law.go:151", after := #[{ on := 14, ground := Ground.data }, { on := 12, ground := Ground.chain }, { on := 5, ground := Ground.guard }], guard := some (5, true) }) rfl (fun K hK => ?_) AllReadyH.nil
        refine want (by kernel_rfl) ?_
        refine opCall (ent_Of _ _ _ _ _ _ _ _ _) ?_
        refine (OfOne _ _ (a') (b') _ H64B.out.1 H64B.out.2 F14.out).mono ?_
        rintro e y15 ⟨v15, rfl, hs, hb, -⟩
        clear F14
        replace S9 := Lib.hid (SpansIn.below S9.out hb (Nat.le_refl _))
        replace I12 := Lib.hid (IsSet.below I12.out hb (Nat.le_refl _))
        replace hk := kc hb hk
        clear hb hHeld
        have I15 := Lib.hid hs
        clear hs
        refine hK.out _ _ (KP.out _ hk) (fun hHeld => ?_)
        clear hK K
        try (conv => arg 8; simp only [Act.put, List.setIfInBounds_toArray, List.set_cons_zero, List.set_cons_succ])
        refine wpAnyH_ready (rs := [16]) (by kernel_rfl) (by simp) ?_
        refine AllReadyH.cons (o := { dst := some 32, op := Op.call { callee := Callee.value (Operand.func 18), args := #[Operand.tmp 28, Operand.tmp 31], argTypes := #[26, 26] }, type := 26, pos := "law.go:151", after := #[{ on := 12, ground := Ground.data }, { on := 15, ground := Ground.data }, { on := 15, ground := Ground.chain }, { on := 5, ground := Ground.guard }], guard := some (5, true) }) rfl (fun K hK => ?_) AllReadyH.nil
        refine want (by kernel_rfl) ?_
        refine opCall (ent_Meet _ _ _ _ _ _ _ _ _ _) ?_
        refine (MeetK I12.out I15.out (by omega) (by omega)).mono ?_
        rintro e y16 ⟨v16, rfl, hs, hb, -⟩
        clear I12 I15
        replace S9 := Lib.hid (SpansIn.below S9.out hb (Nat.le_refl _))
        replace hk := kc hb hk
        clear hb hHeld
        have I16 := Lib.hid hs
        clear hs
        refine hK.out _ _ (KP.out _ hk) (fun hHeld => ?_)
        clear hK K
        try (conv => arg 8; simp only [Act.put, List.setIfInBounds_toArray, List.set_cons_zero, List.set_cons_succ])
        refine wpAnyH_ready (rs := [17]) (by kernel_rfl) (by simp) ?_
        refine AllReadyH.cons (o := { dst := some 33, op := Op.call { callee := Callee.value (Operand.func 15), args := #[Operand.tmp 32], argTypes := #[26] }, type := 22, pos := "law.go:151", after := #[{ on := 16, ground := Ground.data }, { on := 16, ground := Ground.chain }, { on := 5, ground := Ground.guard }], guard := some (5, true) }) rfl (fun K hK => ?_) AllReadyH.nil
        refine want (by kernel_rfl) ?_
        refine opCall (ent_All _ _ _ _ _ _ _ _ _) ?_
        refine (AllK I16.out (by omega)).mono ?_
        rintro e y17 ⟨K17, q17, c17, rfl, kx, mx, -, lx, sx, hb⟩
        clear I16
        replace S9 := Lib.hid (SpansIn.below S9.out hb (Nat.le_refl _))
        replace hk := kc hb hk
        clear hb hHeld
        have H17 : Hid (Canon K17 ∧ (∀ d, Mem K17 d ↔ (hasB [(a, b)] d && hasB [(a', b')] d) = true) ∧ K17.length ≤ (2 * 2 + 2 * 2)) := Lib.hid ⟨kx, mx, lx⟩
        have S17 := Lib.hid sx
        clear kx mx lx sx
        refine hK.out _ _ (KP.out _ hk) (fun hHeld => ?_)
        clear hK K
        try (conv => arg 8; simp only [Act.put, List.setIfInBounds_toArray, List.set_cons_zero, List.set_cons_succ])
        refine wpAnyH_ready (rs := [18]) (by kernel_rfl) (by simp) ?_
        refine AllReadyH.cons (o := { dst := some 34, op := Op.call { callee := Callee.value (Operand.func 14), args := #[Operand.tmp 25, Operand.tmp 33], argTypes := #[22, 22] }, type := 4, pos := "law.go:151", after := #[{ on := 9, ground := Ground.data }, { on := 17, ground := Ground.data }, { on := 17, ground := Ground.chain }, { on := 5, ground := Ground.guard }], guard := some (5, true) }) rfl (fun K hK => ?_) AllReadyH.nil
        refine want (by kernel_rfl) ?_
        refine opCall (ent_Same _ _ _ _ _ _ _ _ _ _) ?_
        refine (SameK S9.out S17.out (by have := H9.out.2.2; omega) (canon_eq H9.out.1 H17.out.1 H9.out.2.1 H17.out.2.1 (fun d => HX.out d))).mono ?_
        rintro e y18 ⟨rfl, hb⟩
        clear S9 S17
        clear H9 H17
        replace hk := kc hb hk
        clear hb hHeld
        refine hK.out _ _ (KP.out _ hk) (fun hHeld => ?_)
        clear hK K
        try (conv => arg 8; simp only [Act.put, List.setIfInBounds_toArray, List.set_cons_zero, List.set_cons_succ])
        exact J1.out _ _ _ _ (by kernel_rfl) (by kernel_rfl) ⟨⟨_, _, _, _, _, _, _, _, _, _, _, _, _, _, _, _, _, _, _, _, _, _, _, _, _, _, _, _, _, _, _, _, _, _, _, _, _, _, _, _, _, _, _, _, _, _, _, _, _, _, _, _, _, _, _, _, rfl⟩, hk⟩
      refine AllReadyH.cons (o := { dst := some 30, op := Op.buildSlice 22 1 #[(0, Operand.tmp 29)], type := 22, pos := "law.go:151", after := #[{ on := 13, ground := Ground.data }, { on := 5, ground := Ground.guard }], guard := some (5, true) }) rfl (fun K hK => ?_) AllReadyH.nil
      refine want (by kernel_rfl) ?_
      refine opOne 30 (.tmp 29) (a') (b') rfl rfl rfl ?_
      intro g14 y14 F14 hb
      replace F7 := Lib.hid (SpansIn.below F7.out hb (Nat.le_refl _))
      replace F11 := Lib.hid (SpansIn.below F11.out hb (Nat.le_refl _))
      replace hk := kc hb hk
      clear hb hHeld
      refine hK.out _ _ (KP.out _ hk) (fun hHeld => ?_)
      clear hK K
      try (conv => arg 8; simp only [Act.put, List.setIfInBounds_toArray, List.set_cons_zero, List.set_cons_succ])
      refine wpAnyH_ready (rs := [8]) (by kernel_rfl) (by simp) ?_
      refine AllReadyH.cons (o := { dst := some 24, op := Op.call { callee := Callee.value (Operand.func 12), args := #[Operand.tmp 23], argTypes := #[22] }, type := 26, pos := "law.go:151", after := #[{ on := 7, ground := Ground.data }, { on := 5, ground := Ground.chain }, { on := 5, ground := Ground.guard }], guard := some (5, true) }) rfl (fun K hK => ?_) AllReadyH.nil
      refine want (by kernel_rfl) ?_
      refine opCall (ent_Of _ _ _ _ _ _ _ _ _) ?_
      refine (OfOne _ _ (X0) (Y0) _ H64X.out.1 H64X.out.2 F7.out).mono ?_
      rintro e y8 ⟨v8, rfl, hs, hb, -⟩
      clear F7
      replace F11 := Lib.hid (SpansIn.below F11.out hb (Nat.le_refl _))
      replace F14 := Lib.hid (SpansIn.below F14.out hb (Nat.le_refl _))
      replace hk := kc hb hk
      clear hb hHeld
      have I8 := Lib.hid hs
      clear hs
      refine hK.out _ _ (KP.out _ hk) (fun hHeld => ?_)
      clear hK K
      try (conv => arg 8; simp only [Act.put, List.setIfInBounds_toArray, List.set_cons_zero, List.set_cons_succ])
      refine wpAnyH_ready (rs := [9]) (by kernel_rfl) (by simp) ?_
      refine AllReadyH.cons (o := { dst := some 25, op := Op.call { callee := Callee.value (Operand.func 15), args := #[Operand.tmp 24], argTypes := #[26] }, type := 22, pos := "law.go:151", after := #[{ on := 8, ground := Ground.data }, { on := 8, ground := Ground.chain }, { on := 5, ground := Ground.guard }], guard := some (5, true) }) rfl (fun K hK => ?_) AllReadyH.nil
      refine want (by kernel_rfl) ?_
      refine opCall (ent_All _ _ _ _ _ _ _ _ _) ?_
      refine (AllK I8.out (by omega)).mono ?_
      rintro e y9 ⟨K9, q9, c9, rfl, kx, mx, -, lx, sx, hb⟩
      clear I8
      replace F11 := Lib.hid (SpansIn.below F11.out hb (Nat.le_refl _))
      replace F14 := Lib.hid (SpansIn.below F14.out hb (Nat.le_refl _))
      replace hk := kc hb hk
      clear hb hHeld
      have H9 : Hid (Canon K9 ∧ (∀ d, Mem K9 d ↔ hasB [(X0, Y0)] d = true) ∧ K9.length ≤ 2) := Lib.hid ⟨kx, mx, lx⟩
      have S9 := Lib.hid sx
      clear kx mx lx sx
      refine hK.out _ _ (KP.out _ hk) (fun hHeld => ?_)
      clear hK K
      try (conv => arg 8; simp only [Act.put, List.setIfInBounds_toArray, List.set_cons_zero, List.set_cons_succ])
      refine wpAnyH_ready (rs := [12]) (by kernel_rfl) (by simp) ?_
      refine AllReadyH.cons (o := { dst := some 28, op := Op.call { callee := Callee.value (Operand.func 12), args := #[Operand.tmp 27], argTypes := #[22] }, type := 26, pos := "law.go:151", after := #[{ on := 11, ground := Ground.data }, { on := 9, ground := Ground.chain }, { on := 5, ground := Ground.guard }], guard := some (5, true) }) rfl (fun K hK => ?_) AllReadyH.nil
      refine want (by kernel_rfl) ?_
      refine opCall (ent_Of _ _ _ _ _ _ _ _ _) ?_
      refine (OfOne _ _ (a) (b) _ H64A.out.1 H64A.out.2 F11.out).mono ?_
      rintro e y12 ⟨v12, rfl, hs, hb, -⟩
      clear F11
      replace F14 := Lib.hid (SpansIn.below F14.out hb (Nat.le_refl _))
      replace S9 := Lib.hid (SpansIn.below S9.out hb (Nat.le_refl _))
      replace hk := kc hb hk
      clear hb hHeld
      have I12 := Lib.hid hs
      clear hs
      refine hK.out _ _ (KP.out _ hk) (fun hHeld => ?_)
      clear hK K
      try (conv => arg 8; simp only [Act.put, List.setIfInBounds_toArray, List.set_cons_zero, List.set_cons_succ])
      refine wpAnyH_ready (rs := [15]) (by kernel_rfl) (by simp) ?_
      refine AllReadyH.cons (o := { dst := some 31, op := Op.call { callee := Callee.value (Operand.func 12), args := #[Operand.tmp 30], argTypes := #[22] }, type := 26, pos := "law.go:151", after := #[{ on := 14, ground := Ground.data }, { on := 12, ground := Ground.chain }, { on := 5, ground := Ground.guard }], guard := some (5, true) }) rfl (fun K hK => ?_) AllReadyH.nil
      refine want (by kernel_rfl) ?_
      refine opCall (ent_Of _ _ _ _ _ _ _ _ _) ?_
      refine (OfOne _ _ (a') (b') _ H64B.out.1 H64B.out.2 F14.out).mono ?_
      rintro e y15 ⟨v15, rfl, hs, hb, -⟩
      clear F14
      replace S9 := Lib.hid (SpansIn.below S9.out hb (Nat.le_refl _))
      replace I12 := Lib.hid (IsSet.below I12.out hb (Nat.le_refl _))
      replace hk := kc hb hk
      clear hb hHeld
      have I15 := Lib.hid hs
      clear hs
      refine hK.out _ _ (KP.out _ hk) (fun hHeld => ?_)
      clear hK K
      try (conv => arg 8; simp only [Act.put, List.setIfInBounds_toArray, List.set_cons_zero, List.set_cons_succ])
      refine wpAnyH_ready (rs := [16]) (by kernel_rfl) (by simp) ?_
      refine AllReadyH.cons (o := { dst := some 32, op := Op.call { callee := Callee.value (Operand.func 18), args := #[Operand.tmp 28, Operand.tmp 31], argTypes := #[26, 26] }, type := 26, pos := "law.go:151", after := #[{ on := 12, ground := Ground.data }, { on := 15, ground := Ground.data }, { on := 15, ground := Ground.chain }, { on := 5, ground := Ground.guard }], guard := some (5, true) }) rfl (fun K hK => ?_) AllReadyH.nil
      refine want (by kernel_rfl) ?_
      refine opCall (ent_Meet _ _ _ _ _ _ _ _ _ _) ?_
      refine (MeetK I12.out I15.out (by omega) (by omega)).mono ?_
      rintro e y16 ⟨v16, rfl, hs, hb, -⟩
      clear I12 I15
      replace S9 := Lib.hid (SpansIn.below S9.out hb (Nat.le_refl _))
      replace hk := kc hb hk
      clear hb hHeld
      have I16 := Lib.hid hs
      clear hs
      refine hK.out _ _ (KP.out _ hk) (fun hHeld => ?_)
      clear hK K
      try (conv => arg 8; simp only [Act.put, List.setIfInBounds_toArray, List.set_cons_zero, List.set_cons_succ])
      refine wpAnyH_ready (rs := [17]) (by kernel_rfl) (by simp) ?_
      refine AllReadyH.cons (o := { dst := some 33, op := Op.call { callee := Callee.value (Operand.func 15), args := #[Operand.tmp 32], argTypes := #[26] }, type := 22, pos := "law.go:151", after := #[{ on := 16, ground := Ground.data }, { on := 16, ground := Ground.chain }, { on := 5, ground := Ground.guard }], guard := some (5, true) }) rfl (fun K hK => ?_) AllReadyH.nil
      refine want (by kernel_rfl) ?_
      refine opCall (ent_All _ _ _ _ _ _ _ _ _) ?_
      refine (AllK I16.out (by omega)).mono ?_
      rintro e y17 ⟨K17, q17, c17, rfl, kx, mx, -, lx, sx, hb⟩
      clear I16
      replace S9 := Lib.hid (SpansIn.below S9.out hb (Nat.le_refl _))
      replace hk := kc hb hk
      clear hb hHeld
      have H17 : Hid (Canon K17 ∧ (∀ d, Mem K17 d ↔ (hasB [(a, b)] d && hasB [(a', b')] d) = true) ∧ K17.length ≤ (2 * 2 + 2 * 2)) := Lib.hid ⟨kx, mx, lx⟩
      have S17 := Lib.hid sx
      clear kx mx lx sx
      refine hK.out _ _ (KP.out _ hk) (fun hHeld => ?_)
      clear hK K
      try (conv => arg 8; simp only [Act.put, List.setIfInBounds_toArray, List.set_cons_zero, List.set_cons_succ])
      refine wpAnyH_ready (rs := [18]) (by kernel_rfl) (by simp) ?_
      refine AllReadyH.cons (o := { dst := some 34, op := Op.call { callee := Callee.value (Operand.func 14), args := #[Operand.tmp 25, Operand.tmp 33], argTypes := #[22, 22] }, type := 4, pos := "law.go:151", after := #[{ on := 9, ground := Ground.data }, { on := 17, ground := Ground.data }, { on := 17, ground := Ground.chain }, { on := 5, ground := Ground.guard }], guard := some (5, true) }) rfl (fun K hK => ?_) AllReadyH.nil
      refine want (by kernel_rfl) ?_
      refine opCall (ent_Same _ _ _ _ _ _ _ _ _ _) ?_
      refine (SameK S9.out S17.out (by have := H9.out.2.2; omega) (canon_eq H9.out.1 H17.out.1 H9.out.2.1 H17.out.2.1 (fun d => HX.out d))).mono ?_
      rintro e y18 ⟨rfl, hb⟩
      clear S9 S17
      clear H9 H17
      replace hk := kc hb hk
      clear hb hHeld
      refine hK.out _ _ (KP.out _ hk) (fun hHeld => ?_)
      clear hK K
      try (conv => arg 8; simp only [Act.put, List.setIfInBounds_toArray, List.set_cons_zero, List.set_cons_succ])
      exact J1.out _ _ _ _ (by kernel_rfl) (by kernel_rfl) ⟨⟨_, _, _, _, _, _, _, _, _, _, _, _, _, _, _, _, _, _, _, _, _, _, _, _, _, _, _, _, _, _, _, _, _, _, _, _, _, _, _, _, _, _, _, _, _, _, _, _, _, _, _, _, _, _, _, _, rfl⟩, hk⟩
    refine AllReadyH.cons (o := { dst := some 30, op := Op.buildSlice 22 1 #[(0, Operand.tmp 29)], type := 22, pos := "law.go:151", after := #[{ on := 13, ground := Ground.data }, { on := 5, ground := Ground.guard }], guard := some (5, true) }) rfl (fun K hK => ?_) AllReadyH.nil
    refine want (by kernel_rfl) ?_
    refine opOne 30 (.tmp 29) (a') (b') rfl rfl rfl ?_
    intro g14 y14 F14 hb
    replace F7 := Lib.hid (SpansIn.below F7.out hb (Nat.le_refl _))
    replace hk := kc hb hk
    clear hb hHeld
    refine hK.out _ _ (KP.out _ hk) (fun hHeld => ?_)
    clear hK K
    try (conv => arg 8; simp only [Act.put, List.setIfInBounds_toArray, List.set_cons_zero, List.set_cons_succ])
    refine wpAnyH_ready (rs := [8,11]) (by kernel_rfl) (by simp) ?_
    refine AllReadyH.cons (o := { dst := some 24, op := Op.call { callee := Callee.value (Operand.func 12), args := #[Operand.tmp 23], argTypes := #[22] }, type := 26, pos := "law.go:151", after := #[{ on := 7, ground := Ground.data }, { on := 5, ground := Ground.chain }, { on := 5, ground := Ground.guard }], guard := some (5, true) }) rfl (fun K hK => ?_) ?_
    · as_aux_lemma =>
      refine want (by kernel_rfl) ?_
      refine opCall (ent_Of _ _ _ _ _ _ _ _ _) ?_
      refine (OfOne _ _ (X0) (Y0) _ H64X.out.1 H64X.out.2 F7.out).mono ?_
      rintro e y8 ⟨v8, rfl, hs, hb, -⟩
      clear F7
      replace F14 := Lib.hid (SpansIn.below F14.out hb (Nat.le_refl _))
      replace hk := kc hb hk
      clear hb hHeld
      have I8 := Lib.hid hs
      clear hs
      refine hK.out _ _ (KP.out _ hk) (fun hHeld => ?_)
      clear hK K
      try (conv => arg 8; simp only [Act.put, List.setIfInBounds_toArray, List.set_cons_zero, List.set_cons_succ])
      refine wpAnyH_ready (rs := [9,11]) (by kernel_rfl) (by simp) ?_
      refine AllReadyH.cons (o := { dst := some 25, op := Op.call { callee := Callee.value (Operand.func 15), args := #[Operand.tmp 24], argTypes := #[26] }, type := 22, pos := "law.go:151", after := #[{ on := 8, ground := Ground.data }, { on := 8, ground := Ground.chain }, { on := 5, ground := Ground.guard }], guard := some (5, true) }) rfl (fun K hK => ?_) ?_
      · as_aux_lemma =>
        refine want (by kernel_rfl) ?_
        refine opCall (ent_All _ _ _ _ _ _ _ _ _) ?_
        refine (AllK I8.out (by omega)).mono ?_
        rintro e y9 ⟨K9, q9, c9, rfl, kx, mx, -, lx, sx, hb⟩
        clear I8
        replace F14 := Lib.hid (SpansIn.below F14.out hb (Nat.le_refl _))
        replace hk := kc hb hk
        clear hb hHeld
        have H9 : Hid (Canon K9 ∧ (∀ d, Mem K9 d ↔ hasB [(X0, Y0)] d = true) ∧ K9.length ≤ 2) := Lib.hid ⟨kx, mx, lx⟩
        have S9 := Lib.hid sx
        clear kx mx lx sx
        refine hK.out _ _ (KP.out _ hk) (fun hHeld => ?_)
        clear hK K
        try (conv => arg 8; simp only [Act.put, List.setIfInBounds_toArray, List.set_cons_zero, List.set_cons_succ])
        refine wpAnyH_ready (rs := [11]) (by kernel_rfl) (by simp) ?_
        refine AllReadyH.cons (o := { dst := some 27, op := Op.buildSlice 22 1 #[(0, Operand.tmp 26)], type := 22, pos := "law.go:151", after := #[{ on := 10, ground := Ground.data }, { on := 5, ground := Ground.guard }], guard := some (5, true) }) rfl (fun K hK => ?_) AllReadyH.nil
        refine want (by kernel_rfl) ?_
        refine opOne 27 (.tmp 26) (a) (b) rfl rfl rfl ?_
        intro g11 y11 F11 hb
        replace F14 := Lib.hid (SpansIn.below F14.out hb (Nat.le_refl _))
        replace S9 := Lib.hid (SpansIn.below S9.out hb (Nat.le_refl _))
        replace hk := kc hb hk
        clear hb hHeld
        refine hK.out _ _ (KP.out _ hk) (fun hHeld => ?_)
        clear hK K
        try (conv => arg 8; simp only [Act.put, List.setIfInBounds_toArray, List.set_cons_zero, List.set_cons_succ])
        refine wpAnyH_ready (rs := [12]) (by kernel_rfl) (by simp) ?_
        refine AllReadyH.cons (o := { dst := some 28, op := Op.call { callee := Callee.value (Operand.func 12), args := #[Operand.tmp 27], argTypes := #[22] }, type := 26, pos := "law.go:151", after := #[{ on := 11, ground := Ground.data }, { on := 9, ground := Ground.chain }, { on := 5, ground := Ground.guard }], guard := some (5, true) }) rfl (fun K hK => ?_) AllReadyH.nil
        refine want (by kernel_rfl) ?_
        refine opCall (ent_Of _ _ _ _ _ _ _ _ _) ?_
        refine (OfOne _ _ (a) (b) _ H64A.out.1 H64A.out.2 F11.out).mono ?_
        rintro e y12 ⟨v12, rfl, hs, hb, -⟩
        clear F11
        replace F14 := Lib.hid (SpansIn.below F14.out hb (Nat.le_refl _))
        replace S9 := Lib.hid (SpansIn.below S9.out hb (Nat.le_refl _))
        replace hk := kc hb hk
        clear hb hHeld
        have I12 := Lib.hid hs
        clear hs
        refine hK.out _ _ (KP.out _ hk) (fun hHeld => ?_)
        clear hK K
        try (conv => arg 8; simp only [Act.put, List.setIfInBounds_toArray, List.set_cons_zero, List.set_cons_succ])
        refine wpAnyH_ready (rs := [15]) (by kernel_rfl) (by simp) ?_
        refine AllReadyH.cons (o := { dst := some 31, op := Op.call { callee := Callee.value (Operand.func 12), args := #[Operand.tmp 30], argTypes := #[22] }, type := 26, pos := "law.go:151", after := #[{ on := 14, ground := Ground.data }, { on := 12, ground := Ground.chain }, { on := 5, ground := Ground.guard }], guard := some (5, true) }) rfl (fun K hK => ?_) AllReadyH.nil
        refine want (by kernel_rfl) ?_
        refine opCall (ent_Of _ _ _ _ _ _ _ _ _) ?_
        refine (OfOne _ _ (a') (b') _ H64B.out.1 H64B.out.2 F14.out).mono ?_
        rintro e y15 ⟨v15, rfl, hs, hb, -⟩
        clear F14
        replace S9 := Lib.hid (SpansIn.below S9.out hb (Nat.le_refl _))
        replace I12 := Lib.hid (IsSet.below I12.out hb (Nat.le_refl _))
        replace hk := kc hb hk
        clear hb hHeld
        have I15 := Lib.hid hs
        clear hs
        refine hK.out _ _ (KP.out _ hk) (fun hHeld => ?_)
        clear hK K
        try (conv => arg 8; simp only [Act.put, List.setIfInBounds_toArray, List.set_cons_zero, List.set_cons_succ])
        refine wpAnyH_ready (rs := [16]) (by kernel_rfl) (by simp) ?_
        refine AllReadyH.cons (o := { dst := some 32, op := Op.call { callee := Callee.value (Operand.func 18), args := #[Operand.tmp 28, Operand.tmp 31], argTypes := #[26, 26] }, type := 26, pos := "law.go:151", after := #[{ on := 12, ground := Ground.data }, { on := 15, ground := Ground.data }, { on := 15, ground := Ground.chain }, { on := 5, ground := Ground.guard }], guard := some (5, true) }) rfl (fun K hK => ?_) AllReadyH.nil
        refine want (by kernel_rfl) ?_
        refine opCall (ent_Meet _ _ _ _ _ _ _ _ _ _) ?_
        refine (MeetK I12.out I15.out (by omega) (by omega)).mono ?_
        rintro e y16 ⟨v16, rfl, hs, hb, -⟩
        clear I12 I15
        replace S9 := Lib.hid (SpansIn.below S9.out hb (Nat.le_refl _))
        replace hk := kc hb hk
        clear hb hHeld
        have I16 := Lib.hid hs
        clear hs
        refine hK.out _ _ (KP.out _ hk) (fun hHeld => ?_)
        clear hK K
        try (conv => arg 8; simp only [Act.put, List.setIfInBounds_toArray, List.set_cons_zero, List.set_cons_succ])
        refine wpAnyH_ready (rs := [17]) (by kernel_rfl) (by simp) ?_
        refine AllReadyH.cons (o := { dst := some 33, op := Op.call { callee := Callee.value (Operand.func 15), args := #[Operand.tmp 32], argTypes := #[26] }, type := 22, pos := "law.go:151", after := #[{ on := 16, ground := Ground.data }, { on := 16, ground := Ground.chain }, { on := 5, ground := Ground.guard }], guard := some (5, true) }) rfl (fun K hK => ?_) AllReadyH.nil
        refine want (by kernel_rfl) ?_
        refine opCall (ent_All _ _ _ _ _ _ _ _ _) ?_
        refine (AllK I16.out (by omega)).mono ?_
        rintro e y17 ⟨K17, q17, c17, rfl, kx, mx, -, lx, sx, hb⟩
        clear I16
        replace S9 := Lib.hid (SpansIn.below S9.out hb (Nat.le_refl _))
        replace hk := kc hb hk
        clear hb hHeld
        have H17 : Hid (Canon K17 ∧ (∀ d, Mem K17 d ↔ (hasB [(a, b)] d && hasB [(a', b')] d) = true) ∧ K17.length ≤ (2 * 2 + 2 * 2)) := Lib.hid ⟨kx, mx, lx⟩
        have S17 := Lib.hid sx
        clear kx mx lx sx
        refine hK.out _ _ (KP.out _ hk) (fun hHeld => ?_)
        clear hK K
        try (conv => arg 8; simp only [Act.put, List.setIfInBounds_toArray, List.set_cons_zero, List.set_cons_succ])
        refine wpAnyH_ready (rs := [18]) (by kernel_rfl) (by simp) ?_
        refine AllReadyH.cons (o := { dst := some 34, op := Op.call { callee := Callee.value (Operand.func 14), args := #[Operand.tmp 25, Operand.tmp 33], argTypes := #[22, 22] }, type := 4, pos := "law.go:151", after := #[{ on := 9, ground := Ground.data }, { on := 17, ground := Ground.data }, { on := 17, ground := Ground.chain }, { on := 5, ground := Ground.guard }], guard := some (5, true) }) rfl (fun K hK => ?_) AllReadyH.nil
        refine want (by kernel_rfl) ?_
        refine opCall (ent_Same _ _ _ _ _ _ _ _ _ _) ?_
        refine (SameK S9.out S17.out (by have := H9.out.2.2; omega) (canon_eq H9.out.1 H17.out.1 H9.out.2.1 H17.out.2.1 (fun d => HX.out d))).mono ?_
        rintro e y18 ⟨rfl, hb⟩
        clear S9 S17
        clear H9 H17
        replace hk := kc hb hk
        clear hb hHeld
        refine hK.out _ _ (KP.out _ hk) (fun hHeld => ?_)
        clear hK K
        try (conv => arg 8; simp only [Act.put, List.setIfInBounds_toArray, List.set_cons_zero, List.set_cons_succ])
        exact J1.out _ _ _ _ (by kernel_rfl) (by kernel_rfl) ⟨⟨_, _, _, _, _, _, _, _, _, _, _, _, _, _, _, _, _, _, _, _, _, _, _, _, _, _, _, _, _, _, _, _, _, _, _, _, _, _, _, _, _, _, _, _, _, _, _, _, _, _, _, _, _, _, _, _, rfl⟩, hk⟩
      refine AllReadyH.cons (o := { dst := some 27, op := Op.buildSlice 22 1 #[(0, Operand.tmp 26)], type := 22, pos := "law.go:151", after := #[{ on := 10, ground := Ground.data }, { on := 5, ground := Ground.guard }], guard := some (5, true) }) rfl (fun K hK => ?_) AllReadyH.nil
      refine want (by kernel_rfl) ?_
      refine opOne 27 (.tmp 26) (a) (b) rfl rfl rfl ?_
      intro g11 y11 F11 hb
      replace F14 := Lib.hid (SpansIn.below F14.out hb (Nat.le_refl _))
      replace I8 := Lib.hid (IsSet.below I8.out hb (Nat.le_refl _))
      replace hk := kc hb hk
      clear hb hHeld
      refine hK.out _ _ (KP.out _ hk) (fun hHeld => ?_)
      clear hK K
      try (conv => arg 8; simp only [Act.put, List.setIfInBounds_toArray, List.set_cons_zero, List.set_cons_succ])
      refine wpAnyH_ready (rs := [9]) (by kernel_rfl) (by simp) ?_
      refine AllReadyH.cons (o := { dst := some 25, op := Op.call { callee := Callee.value (Operand.func 15), args := #[Operand.tmp 24], argTypes := #[26] }, type := 22, pos := "law.go:151", after := #[{ on := 8, ground := Ground.data }, { on := 8, ground := Ground.chain }, { on := 5, ground := Ground.guard }], guard := some (5, true) }) rfl (fun K hK => ?_) AllReadyH.nil
      refine want (by kernel_rfl) ?_
      refine opCall (ent_All _ _ _ _ _ _ _ _ _) ?_
      refine (AllK I8.out (by omega)).mono ?_
      rintro e y9 ⟨K9, q9, c9, rfl, kx, mx, -, lx, sx, hb⟩
      clear I8
      replace F14 := Lib.hid (SpansIn.below F14.out hb (Nat.le_refl _))
      replace F11 := Lib.hid (SpansIn.below F11.out hb (Nat.le_refl _))
      replace hk := kc hb hk
      clear hb hHeld
      have H9 : Hid (Canon K9 ∧ (∀ d, Mem K9 d ↔ hasB [(X0, Y0)] d = true) ∧ K9.length ≤ 2) := Lib.hid ⟨kx, mx, lx⟩
      have S9 := Lib.hid sx
      clear kx mx lx sx
      refine hK.out _ _ (KP.out _ hk) (fun hHeld => ?_)
      clear hK K
      try (conv => arg 8; simp only [Act.put, List.setIfInBounds_toArray, List.set_cons_zero, List.set_cons_succ])
      refine wpAnyH_ready (rs := [12]) (by kernel_rfl) (by simp) ?_
      refine AllReadyH.cons (o := { dst := some 28, op := Op.call { callee := Callee.value (Operand.func 12), args := #[Operand.tmp 27], argTypes := #[22] }, type := 26, pos := "law.go:151", after := #[{ on := 11, ground := Ground.data }, { on := 9, ground := Ground.chain }, { on := 5, ground := Ground.guard }], guard := some (5, true) }) rfl (fun K hK => ?_) AllReadyH.nil
      refine want (by kernel_rfl) ?_
      refine opCall (ent_Of _ _ _ _ _ _ _ _ _) ?_
      refine (OfOne _ _ (a) (b) _ H64A.out.1 H64A.out.2 F11.out).mono ?_
      rintro e y12 ⟨v12, rfl, hs, hb, -⟩
      clear F11
      replace F14 := Lib.hid (SpansIn.below F14.out hb (Nat.le_refl _))
      replace S9 := Lib.hid (SpansIn.below S9.out hb (Nat.le_refl _))
      replace hk := kc hb hk
      clear hb hHeld
      have I12 := Lib.hid hs
      clear hs
      refine hK.out _ _ (KP.out _ hk) (fun hHeld => ?_)
      clear hK K
      try (conv => arg 8; simp only [Act.put, List.setIfInBounds_toArray, List.set_cons_zero, List.set_cons_succ])
      refine wpAnyH_ready (rs := [15]) (by kernel_rfl) (by simp) ?_
      refine AllReadyH.cons (o := { dst := some 31, op := Op.call { callee := Callee.value (Operand.func 12), args := #[Operand.tmp 30], argTypes := #[22] }, type := 26, pos := "law.go:151", after := #[{ on := 14, ground := Ground.data }, { on := 12, ground := Ground.chain }, { on := 5, ground := Ground.guard }], guard := some (5, true) }) rfl (fun K hK => ?_) AllReadyH.nil
      refine want (by kernel_rfl) ?_
      refine opCall (ent_Of _ _ _ _ _ _ _ _ _) ?_
      refine (OfOne _ _ (a') (b') _ H64B.out.1 H64B.out.2 F14.out).mono ?_
      rintro e y15 ⟨v15, rfl, hs, hb, -⟩
      clear F14
      replace S9 := Lib.hid (SpansIn.below S9.out hb (Nat.le_refl _))
      replace I12 := Lib.hid (IsSet.below I12.out hb (Nat.le_refl _))
      replace hk := kc hb hk
      clear hb hHeld
      have I15 := Lib.hid hs
      clear hs
      refine hK.out _ _ (KP.out _ hk) (fun hHeld => ?_)
      clear hK K
      try (conv => arg 8; simp only [Act.put, List.setIfInBounds_toArray, List.set_cons_zero, List.set_cons_succ])
      refine wpAnyH_ready (rs := [16]) (by kernel_rfl) (by simp) ?_
      refine AllReadyH.cons (o := { dst := some 32, op := Op.call { callee := Callee.value (Operand.func 18), args := #[Operand.tmp 28, Operand.tmp 31], argTypes := #[26, 26] }, type := 26, pos := "law.go:151", after := #[{ on := 12, ground := Ground.data }, { on := 15, ground := Ground.data }, { on := 15, ground := Ground.chain }, { on := 5, ground := Ground.guard }], guard := some (5, true) }) rfl (fun K hK => ?_) AllReadyH.nil
      refine want (by kernel_rfl) ?_
      refine opCall (ent_Meet _ _ _ _ _ _ _ _ _ _) ?_
      refine (MeetK I12.out I15.out (by omega) (by omega)).mono ?_
      rintro e y16 ⟨v16, rfl, hs, hb, -⟩
      clear I12 I15
      replace S9 := Lib.hid (SpansIn.below S9.out hb (Nat.le_refl _))
      replace hk := kc hb hk
      clear hb hHeld
      have I16 := Lib.hid hs
      clear hs
      refine hK.out _ _ (KP.out _ hk) (fun hHeld => ?_)
      clear hK K
      try (conv => arg 8; simp only [Act.put, List.setIfInBounds_toArray, List.set_cons_zero, List.set_cons_succ])
      refine wpAnyH_ready (rs := [17]) (by kernel_rfl) (by simp) ?_
      refine AllReadyH.cons (o := { dst := some 33, op := Op.call { callee := Callee.value (Operand.func 15), args := #[Operand.tmp 32], argTypes := #[26] }, type := 22, pos := "law.go:151", after := #[{ on := 16, ground := Ground.data }, { on := 16, ground := Ground.chain }, { on := 5, ground := Ground.guard }], guard := some (5, true) }) rfl (fun K hK => ?_) AllReadyH.nil
      refine want (by kernel_rfl) ?_
      refine opCall (ent_All _ _ _ _ _ _ _ _ _) ?_
      refine (AllK I16.out (by omega)).mono ?_
      rintro e y17 ⟨K17, q17, c17, rfl, kx, mx, -, lx, sx, hb⟩
      clear I16
      replace S9 := Lib.hid (SpansIn.below S9.out hb (Nat.le_refl _))
      replace hk := kc hb hk
      clear hb hHeld
      have H17 : Hid (Canon K17 ∧ (∀ d, Mem K17 d ↔ (hasB [(a, b)] d && hasB [(a', b')] d) = true) ∧ K17.length ≤ (2 * 2 + 2 * 2)) := Lib.hid ⟨kx, mx, lx⟩
      have S17 := Lib.hid sx
      clear kx mx lx sx
      refine hK.out _ _ (KP.out _ hk) (fun hHeld => ?_)
      clear hK K
      try (conv => arg 8; simp only [Act.put, List.setIfInBounds_toArray, List.set_cons_zero, List.set_cons_succ])
      refine wpAnyH_ready (rs := [18]) (by kernel_rfl) (by simp) ?_
      refine AllReadyH.cons (o := { dst := some 34, op := Op.call { callee := Callee.value (Operand.func 14), args := #[Operand.tmp 25, Operand.tmp 33], argTypes := #[22, 22] }, type := 4, pos := "law.go:151", after := #[{ on := 9, ground := Ground.data }, { on := 17, ground := Ground.data }, { on := 17, ground := Ground.chain }, { on := 5, ground := Ground.guard }], guard := some (5, true) }) rfl (fun K hK => ?_) AllReadyH.nil
      refine want (by kernel_rfl) ?_
      refine opCall (ent_Same _ _ _ _ _ _ _ _ _ _) ?_
      refine (SameK S9.out S17.out (by have := H9.out.2.2; omega) (canon_eq H9.out.1 H17.out.1 H9.out.2.1 H17.out.2.1 (fun d => HX.out d))).mono ?_
      rintro e y18 ⟨rfl, hb⟩
      clear S9 S17
      clear H9 H17
      replace hk := kc hb hk
      clear hb hHeld
      refine hK.out _ _ (KP.out _ hk) (fun hHeld => ?_)
      clear hK K
      try (conv => arg 8; simp only [Act.put, List.setIfInBounds_toArray, List.set_cons_zero, List.set_cons_succ])
      exact J1.out _ _ _ _ (by kernel_rfl) (by kernel_rfl) ⟨⟨_, _, _, _, _, _, _, _, _, _, _, _, _, _, _, _, _, _, _, _, _, _, _, _, _, _, _, _, _, _, _, _, _, _, _, _, _, _, _, _, _, _, _, _, _, _, _, _, _, _, _, _, _, _, _, _, rfl⟩, hk⟩
    refine AllReadyH.cons (o := { dst := some 27, op := Op.buildSlice 22 1 #[(0, Operand.tmp 26)], type := 22, pos := "law.go:151", after := #[{ on := 10, ground := Ground.data }, { on := 5, ground := Ground.guard }], guard := some (5, true) }) rfl (fun K hK => ?_) AllReadyH.nil
    refine want (by kernel_rfl) ?_
    refine opOne 27 (.tmp 26) (a) (b) rfl rfl rfl ?_
    intro g11 y11 F11 hb
    replace F7 := Lib.hid (SpansIn.below F7.out hb (Nat.le_refl _))
    replace F14 := Lib.hid (SpansIn.below F14.out hb (Nat.le_refl _))
    replace hk := kc hb hk
    clear hb hHeld
    refine hK.out _ _ (KP.out _ hk) (fun hHeld => ?_)
    clear hK K
    try (conv => arg 8; simp only [Act.put, List.setIfInBounds_toArray, List.set_cons_zero, List.set_cons_succ])
    refine wpAnyH_ready (rs := [8]) (by kernel_rfl) (by simp) ?_
    refine AllReadyH.cons (o := { dst := some 24, op := Op.call { callee := Callee.value (Operand.func 12), args := #[Operand.tmp 23], argTypes := #[22] }, type := 26, pos := "law.go:151", after := #[{ on := 7, ground := Ground.data }, { on := 5, ground := Ground.chain }, { on := 5, ground := Ground.guard }], guard := some (5, true) }) rfl (fun K hK => ?_) AllReadyH.nil
    refine want (by kernel_rfl) ?_
    refine opCall (ent_Of _ _ _ _ _ _ _ _ _) ?_
    refine (OfOne _ _ (X0) (Y0) _ H64X.out.1 H64X.out.2 F7.out).mono ?_
    rintro e y8 ⟨v8, rfl, hs, hb, -⟩
    clear F7
    replace F14 := Lib.hid (SpansIn.below F14.out hb (Nat.le_refl _))
    replace F11 := Lib.hid (SpansIn.below F11.out hb (Nat.le_refl _))
    replace hk := kc hb hk
    clear hb hHeld
    have I8 := Lib.hid hs
    clear hs
    refine hK.out _ _ (KP.out _ hk) (fun hHeld => ?_)
    clear hK K
    try (conv => arg 8; simp only [Act.put, List.setIfInBounds_toArray, List.set_cons_zero, List.set_cons_succ])
    refine wpAnyH_ready (rs := [9]) (by kernel_rfl) (by simp) ?_
    refine AllReadyH.cons (o := { dst := some 25, op := Op.call { callee := Callee.value (Operand.func 15), args := #[Operand.tmp 24], argTypes := #[26] }, type := 22, pos := "law.go:151", after := #[{ on := 8, ground := Ground.data }, { on := 8, ground := Ground.chain }, { on := 5, ground := Ground.guard }], guard := some (5, true) }) rfl (fun K hK => ?_) AllReadyH.nil
    refine want (by kernel_rfl) ?_
    refine opCall (ent_All _ _ _ _ _ _ _ _ _) ?_
    refine (AllK I8.out (by omega)).mono ?_
    rintro e y9 ⟨K9, q9, c9, rfl, kx, mx, -, lx, sx, hb⟩
    clear I8
    replace F14 := Lib.hid (SpansIn.below F14.out hb (Nat.le_refl _))
    replace F11 := Lib.hid (SpansIn.below F11.out hb (Nat.le_refl _))
    replace hk := kc hb hk
    clear hb hHeld
    have H9 : Hid (Canon K9 ∧ (∀ d, Mem K9 d ↔ hasB [(X0, Y0)] d = true) ∧ K9.length ≤ 2) := Lib.hid ⟨kx, mx, lx⟩
    have S9 := Lib.hid sx
    clear kx mx lx sx
    refine hK.out _ _ (KP.out _ hk) (fun hHeld => ?_)
    clear hK K
    try (conv => arg 8; simp only [Act.put, List.setIfInBounds_toArray, List.set_cons_zero, List.set_cons_succ])
    refine wpAnyH_ready (rs := [12]) (by kernel_rfl) (by simp) ?_
    refine AllReadyH.cons (o := { dst := some 28, op := Op.call { callee := Callee.value (Operand.func 12), args := #[Operand.tmp 27], argTypes := #[22] }, type := 26, pos := "law.go:151", after := #[{ on := 11, ground := Ground.data }, { on := 9, ground := Ground.chain }, { on := 5, ground := Ground.guard }], guard := some (5, true) }) rfl (fun K hK => ?_) AllReadyH.nil
    refine want (by kernel_rfl) ?_
    refine opCall (ent_Of _ _ _ _ _ _ _ _ _) ?_
    refine (OfOne _ _ (a) (b) _ H64A.out.1 H64A.out.2 F11.out).mono ?_
    rintro e y12 ⟨v12, rfl, hs, hb, -⟩
    clear F11
    replace F14 := Lib.hid (SpansIn.below F14.out hb (Nat.le_refl _))
    replace S9 := Lib.hid (SpansIn.below S9.out hb (Nat.le_refl _))
    replace hk := kc hb hk
    clear hb hHeld
    have I12 := Lib.hid hs
    clear hs
    refine hK.out _ _ (KP.out _ hk) (fun hHeld => ?_)
    clear hK K
    try (conv => arg 8; simp only [Act.put, List.setIfInBounds_toArray, List.set_cons_zero, List.set_cons_succ])
    refine wpAnyH_ready (rs := [15]) (by kernel_rfl) (by simp) ?_
    refine AllReadyH.cons (o := { dst := some 31, op := Op.call { callee := Callee.value (Operand.func 12), args := #[Operand.tmp 30], argTypes := #[22] }, type := 26, pos := "law.go:151", after := #[{ on := 14, ground := Ground.data }, { on := 12, ground := Ground.chain }, { on := 5, ground := Ground.guard }], guard := some (5, true) }) rfl (fun K hK => ?_) AllReadyH.nil
    refine want (by kernel_rfl) ?_
    refine opCall (ent_Of _ _ _ _ _ _ _ _ _) ?_
    refine (OfOne _ _ (a') (b') _ H64B.out.1 H64B.out.2 F14.out).mono ?_
    rintro e y15 ⟨v15, rfl, hs, hb, -⟩
    clear F14
    replace S9 := Lib.hid (SpansIn.below S9.out hb (Nat.le_refl _))
    replace I12 := Lib.hid (IsSet.below I12.out hb (Nat.le_refl _))
    replace hk := kc hb hk
    clear hb hHeld
    have I15 := Lib.hid hs
    clear hs
    refine hK.out _ _ (KP.out _ hk) (fun hHeld => ?_)
    clear hK K
    try (conv => arg 8; simp only [Act.put, List.setIfInBounds_toArray, List.set_cons_zero, List.set_cons_succ])
    refine wpAnyH_ready (rs := [16]) (by kernel_rfl) (by simp) ?_
    refine AllReadyH.cons (o := { dst := some 32, op := Op.call { callee := Callee.value (Operand.func 18), args := #[Operand.tmp 28, Operand.tmp 31], argTypes := #[26, 26] }, type := 26, pos := "law.go:151", after := #[{ on := 12, ground := Ground.data }, { on := 15, ground := Ground.data }, { on := 15, ground := Ground.chain }, { on := 5, ground := Ground.guard }], guard := some (5, true) }) rfl (fun K hK => ?_) AllReadyH.nil
    refine want (by kernel_rfl) ?_
    refine opCall (ent_Meet _ _ _ _ _ _ _ _ _ _) ?_
    refine (MeetK I12.out I15.out (by omega) (by omega)).mono ?_
    rintro e y16 ⟨v16, rfl, hs, hb, -⟩
    clear I12 I15
    replace S9 := Lib.hid (SpansIn.below S9.out hb (Nat.le_refl _))
    replace hk := kc hb hk
    clear hb hHeld
    have I16 := Lib.hid hs
    clear hs
    refine hK.out _ _ (KP.out _ hk) (fun hHeld => ?_)
    clear hK K
    try (conv => arg 8; simp only [Act.put, List.setIfInBounds_toArray, List.set_cons_zero, List.set_cons_succ])
    refine wpAnyH_ready (rs := [17]) (by kernel_rfl) (by simp) ?_
    refine AllReadyH.cons (o := { dst := some 33, op := Op.call { callee := Callee.value (Operand.func 15), args := #[Operand.tmp 32], argTypes := #[26] }, type := 22, pos := "law.go:151", after := #[{ on := 16, ground := Ground.data }, { on := 16, ground := Ground.chain }, { on := 5, ground := Ground.guard }], guard := some (5, true) }) rfl (fun K hK => ?_) AllReadyH.nil
    refine want (by kernel_rfl) ?_
    refine opCall (ent_All _ _ _ _ _ _ _ _ _) ?_
    refine (AllK I16.out (by omega)).mono ?_
    rintro e y17 ⟨K17, q17, c17, rfl, kx, mx, -, lx, sx, hb⟩
    clear I16
    replace S9 := Lib.hid (SpansIn.below S9.out hb (Nat.le_refl _))
    replace hk := kc hb hk
    clear hb hHeld
    have H17 : Hid (Canon K17 ∧ (∀ d, Mem K17 d ↔ (hasB [(a, b)] d && hasB [(a', b')] d) = true) ∧ K17.length ≤ (2 * 2 + 2 * 2)) := Lib.hid ⟨kx, mx, lx⟩
    have S17 := Lib.hid sx
    clear kx mx lx sx
    refine hK.out _ _ (KP.out _ hk) (fun hHeld => ?_)
    clear hK K
    try (conv => arg 8; simp only [Act.put, List.setIfInBounds_toArray, List.set_cons_zero, List.set_cons_succ])
    refine wpAnyH_ready (rs := [18]) (by kernel_rfl) (by simp) ?_
    refine AllReadyH.cons (o := { dst := some 34, op := Op.call { callee := Callee.value (Operand.func 14), args := #[Operand.tmp 25, Operand.tmp 33], argTypes := #[22, 22] }, type := 4, pos := "law.go:151", after := #[{ on := 9, ground := Ground.data }, { on := 17, ground := Ground.data }, { on := 17, ground := Ground.chain }, { on := 5, ground := Ground.guard }], guard := some (5, true) }) rfl (fun K hK => ?_) AllReadyH.nil
    refine want (by kernel_rfl) ?_
    refine opCall (ent_Same _ _ _ _ _ _ _ _ _ _) ?_
    refine (SameK S9.out S17.out (by have := H9.out.2.2; omega) (canon_eq H9.out.1 H17.out.1 H9.out.2.1 H17.out.2.1 (fun d => HX.out d))).mono ?_
    rintro e y18 ⟨rfl, hb⟩
    clear S9 S17
    clear H9 H17
    replace hk := kc hb hk
    clear hb hHeld
    refine hK.out _ _ (KP.out _ hk) (fun hHeld => ?_)
    clear hK K
    try (conv => arg 8; simp only [Act.put, List.setIfInBounds_toArray, List.set_cons_zero, List.set_cons_succ])
    exact J1.out _ _ _ _ (by kernel_rfl) (by kernel_rfl) ⟨⟨_, _, _, _, _, _, _, _, _, _, _, _, _, _, _, _, _, _, _, _, _, _, _, _, _, _, _, _, _, _, _, _, _, _, _, _, _, _, _, _, _, _, _, _, _, _, _, _, _, _, _, _, _, _, _, _, rfl⟩, hk⟩
  refine AllReadyH.cons (o := { dst := some 27, op := Op.buildSlice 22 1 #[(0, Operand.tmp 26)], type := 22, pos := "law.go:151", after := #[{ on := 10, ground := Ground.data }, { on := 5, ground := Ground.guard }], guard := some (5, true) }) rfl (fun K hK => ?_) ?_
  · as_aux_lemma =>
    refine want (by kernel_rfl) ?_
    refine opOne 27 (.tmp 26) (a) (b) rfl rfl rfl ?_
    intro g11 y11 F11 hb
    replace hk := kc hb hk
    clear hb hHeld
    refine hK.out _ _ (KP.out _ hk) (fun hHeld => ?_)
    clear hK K
    try (conv => arg 8; simp only [Act.put, List.setIfInBounds_toArray, List.set_cons_zero, List.set_cons_succ])
    refine wpAnyH_ready (rs := [7,14]) (by kernel_rfl) (by simp) ?_
    refine AllReadyH.cons (o := { dst := some 23, op := Op.buildSlice 22 1 #[(0, Operand.tmp 22)], type := 22, pos := "law.go:151", after := #[{ on := 6, ground := Ground.data }, { on := 5, ground := Ground.guard }], guard := some (5, true) }) rfl (fun K hK => ?_) ?_
    · as_aux_lemma =>
      refine want (by kernel_rfl) ?_
      refine opOne 23 (.tmp 22) (X0) (Y0) rfl rfl rfl ?_
      intro g7 y7 F7 hb
      replace F11 := Lib.hid (SpansIn.below F11.out hb (Nat.le_refl _))
      replace hk := kc hb hk
      clear hb hHeld
      refine hK.out _ _ (KP.out _ hk) (fun hHeld => ?_)
      clear hK K
      try (conv => arg 8; simp only [Act.put, List.setIfInBounds_toArray, List.set_cons_zero, List.set_cons_succ])
      refine wpAnyH_ready (rs := [8,14]) (by kernel_rfl) (by simp) ?_
      refine AllReadyH.cons (o := { dst := some 24, op := Op.call { callee := Callee.value (Operand.func 12), args := #[Operand.tmp 23], argTypes := #[22] }, type := 26, pos := "law.go:151", after := #[{ on := 7, ground := Ground.data }, { on := 5, ground := Ground.chain }, { on := 5, ground := Ground.guard }], guard := some (5, true) }) rfl (fun K hK => ?_) ?_
      · as_aux_lemma =>
        refine want (by kernel_rfl) ?_
        refine opCall (ent_Of _ _ _ _ _ _ _ _ _) ?_
        refine (OfOne _ _ (X0) (Y0) _ H64X.out.1 H64X.out.2 F7.out).mono ?_
        rintro e y8 ⟨v8, rfl, hs, hb, -⟩
        clear F7
        replace F11 := Lib.hid (SpansIn.below F11.out hb (Nat.le_refl _))
        replace hk := kc hb hk
        clear hb hHeld
        have I8 := Lib.hid hs
        clear hs
        refine hK.out _ _ (KP.out _ hk) (fun hHeld => ?_)
        clear hK K
        try (conv => arg 8; simp only [Act.put, List.setIfInBounds_toArray, List.set_cons_zero, List.set_cons_succ])
        refine wpAnyH_ready (rs := [9,14]) (by kernel_rfl) (by simp) ?_
        refine AllReadyH.cons (o := { dst := some 25, op := Op.call { callee := Callee.value (Operand.func 15), args := #[Operand.tmp 24], argTypes := #[26] }, type := 22, pos := "law.go:151", after := #[{ on := 8, ground := Ground.data }, { on := 8, ground := Ground.chain }, { on := 5, ground := Ground.guard }], guard := some (5, true) }) rfl (fun K hK => ?_) ?_
        · as_aux_lemma =>
          refine want (by kernel_rfl) ?_
          refine opCall (ent_All _ _ _ _ _ _ _ _ _) ?_
          refine (AllK I8.out (by omega)).mono ?_
          rintro e y9 ⟨K9, q9, c9, rfl, kx, mx, -, lx, sx, hb⟩
          clear I8
          replace F11 := Lib.hid (SpansIn.below F11.out hb (Nat.le_refl _))
          replace hk := kc hb hk
          clear hb hHeld
          have H9 : Hid (Canon K9 ∧ (∀ d, Mem K9 d ↔ hasB [(X0, Y0)] d = true) ∧ K9.length ≤ 2) := Lib.hid ⟨kx, mx, lx⟩
          have S9 := Lib.hid sx
          clear kx mx lx sx
          refine hK.out _ _ (KP.out _ hk) (fun hHeld => ?_)
          clear hK K
          try (conv => arg 8; simp only [Act.put, List.setIfInBounds_toArray, List.set_cons_zero, List.set_cons_succ])
          refine wpAnyH_ready (rs := [12,14]) (by kernel_rfl) (by simp) ?_
          refine AllReadyH.cons (o := { dst := some 28, op := Op.call { callee := Callee.value (Operand.func 12), args := #[Operand.tmp 27], argTypes := #[22] }, type := 26, pos := "law.go:151", after := #[{ on := 11, ground := Ground.data }, { on := 9, ground := Ground.chain }, { on := 5, ground := Ground.guard }], guard := some (5, true) }) rfl (fun K hK => ?_) ?_
          · as_aux_lemma =>
            refine want (by kernel_rfl) ?_
            refine opCall (ent_Of _ _ _ _ _ _ _ _ _) ?_
            refine (OfOne _ _ (a) (b) _ H64A.out.1 H64A.out.2 F11.out).mono ?_
            rintro e y12 ⟨v12, rfl, hs, hb, -⟩
            clear F11
            replace S9 := Lib.hid (SpansIn.below S9.out hb (Nat.le_refl _))
            replace hk := kc hb hk
            clear hb hHeld
            have I12 := Lib.hid hs
            clear hs
            refine hK.out _ _ (KP.out _ hk) (fun hHeld => ?_)
            clear hK K
            try (conv => arg 8; simp only [Act.put, List.setIfInBounds_toArray, List.set_cons_zero, List.set_cons_succ])
            refine wpAnyH_ready (rs := [14]) (by kernel_rfl) (by simp) ?_
            refine AllReadyH.cons (o := { dst := some 30, op := Op.buildSlice 22 1 #[(0, Operand.tmp 29)], type := 22, pos := "law.go:151", after := #[{ on := 13, ground := Ground.data }, { on := 5, ground := Ground.guard }], guard := some (5, true) }) rfl (fun K hK => ?_) AllReadyH.nil
            refine want (by kernel_rfl) ?_
            refine opOne 30 (.tmp 29) (a') (b') rfl rfl rfl ?_
            intro g14 y14 F14 hb
            replace S9 := Lib.hid (SpansIn.below S9.out hb (Nat.le_refl _))
            replace I12 := Lib.hid (IsSet.below I12.out hb (Nat.le_refl _))
            replace hk := kc hb hk
            clear hb hHeld
            refine hK.out _ _ (KP.out _ hk) (fun hHeld => ?_)
            clear hK K
            try (conv => arg 8; simp only [Act.put, List.setIfInBounds_toArray, List.set_cons_zero, List.set_cons_succ])
            refine wpAnyH_ready (rs := [15]) (by kernel_rfl) (by simp) ?_
            refine AllReadyH.cons (o := { dst := some 31, op := Op.call { callee := Callee.value (Operand.func 12), args := #[Operand.tmp 30], argTypes := #[22] }, type := 26, pos := "law.go:151", after := #[{ on := 14, ground := Ground.data }, { on := 12, ground := Ground.chain }, { on := 5, ground := Ground.guard }], guard := some (5, true) }) rfl (fun K hK => ?_) AllReadyH.nil
            refine want (by kernel_rfl) ?_
            refine opCall (ent_Of _ _ _ _ _ _ _ _ _) ?_
            refine (OfOne _ _ (a') (b') _ H64B.out.1 H64B.out.2 F14.out).mono ?_
            rintro e y15 ⟨v15, rfl, hs, hb, -⟩
            clear F14
            replace S9 := Lib.hid (SpansIn.below S9.out hb (Nat.le_refl _))
            replace I12 := Lib.hid (IsSet.below I12.out hb (Nat.le_refl _))
            replace hk := kc hb hk
            clear hb hHeld
            have I15 := Lib.hid hs
            clear hs
            refine hK.out _ _ (KP.out _ hk) (fun hHeld => ?_)
            clear hK K
            try (conv => arg 8; simp only [Act.put, List.setIfInBounds_toArray, List.set_cons_zero, List.set_cons_succ])
            refine wpAnyH_ready (rs := [16]) (by kernel_rfl) (by simp) ?_
            refine AllReadyH.cons (o := { dst := some 32, op := Op.call { callee := Callee.value (Operand.func 18), args := #[Operand.tmp 28, Operand.tmp 31], argTypes := #[26, 26] }, type := 26, pos := "law.go:151", after := #[{ on := 12, ground := Ground.data }, { on := 15, ground := Ground.data }, { on := 15, ground := Ground.chain }, { on := 5, ground := Ground.guard }], guard := some (5, true) }) rfl (fun K hK => ?_) AllReadyH.nil
            refine want (by kernel_rfl) ?_
            refine opCall (ent_Meet _ _ _ _ _ _ _ _ _ _) ?_
            refine (MeetK I12.out I15.out (by omega) (by omega)).mono ?_
            rintro e y16 ⟨v16, rfl, hs, hb, -⟩
            clear I12 I15
            replace S9 := Lib.hid (SpansIn.below S9.out hb (Nat.le_refl _))
            replace hk := kc hb hk
            clear hb hHeld
            have I16 := Lib.hid hs
            clear hs
            refine hK.out _ _ (KP.out _ hk) (fun hHeld => ?_)
            clear hK K
            try (conv => arg 8; simp only [Act.put, List.setIfInBounds_toArray, List.set_cons_zero, List.set_cons_succ])
            refine wpAnyH_ready (rs := [17]) (by kernel_rfl) (by simp) ?_
            refine AllReadyH.cons (o := { dst := some 33, op := Op.call { callee := Callee.value (Operand.func 15), args := #[Operand.tmp 32], argTypes := #[26] }, type := 22, pos := "law.go:151", after := #[{ on := 16, ground := Ground.data }, { on := 16, ground := Ground.chain }, { on := 5, ground := Ground.guard }], guard := some (5, true) }) rfl (fun K hK => ?_) AllReadyH.nil
            refine want (by kernel_rfl) ?_
            refine opCall (ent_All _ _ _ _ _ _ _ _ _) ?_
            refine (AllK I16.out (by omega)).mono ?_
            rintro e y17 ⟨K17, q17, c17, rfl, kx, mx, -, lx, sx, hb⟩
            clear I16
            replace S9 := Lib.hid (SpansIn.below S9.out hb (Nat.le_refl _))
            replace hk := kc hb hk
            clear hb hHeld
            have H17 : Hid (Canon K17 ∧ (∀ d, Mem K17 d ↔ (hasB [(a, b)] d && hasB [(a', b')] d) = true) ∧ K17.length ≤ (2 * 2 + 2 * 2)) := Lib.hid ⟨kx, mx, lx⟩
            have S17 := Lib.hid sx
            clear kx mx lx sx
            refine hK.out _ _ (KP.out _ hk) (fun hHeld => ?_)
            clear hK K
            try (conv => arg 8; simp only [Act.put, List.setIfInBounds_toArray, List.set_cons_zero, List.set_cons_succ])
            refine wpAnyH_ready (rs := [18]) (by kernel_rfl) (by simp) ?_
            refine AllReadyH.cons (o := { dst := some 34, op := Op.call { callee := Callee.value (Operand.func 14), args := #[Operand.tmp 25, Operand.tmp 33], argTypes := #[22, 22] }, type := 4, pos := "law.go:151", after := #[{ on := 9, ground := Ground.data }, { on := 17, ground := Ground.data }, { on := 17, ground := Ground.chain }, { on := 5, ground := Ground.guard }], guard := some (5, true) }) rfl (fun K hK => ?_) AllReadyH.nil
            refine want (by kernel_rfl) ?_
            refine opCall (ent_Same _ _ _ _ _ _ _ _ _ _) ?_
            refine (SameK S9.out S17.out (by have := H9.out.2.2; omega) (canon_eq H9.out.1 H17.out.1 H9.out.2.1 H17.out.2.1 (fun d => HX.out d))).mono ?_
            rintro e y18 ⟨rfl, hb⟩
            clear S9 S17
            clear H9 H17
            replace hk := kc hb hk
            clear hb hHeld
            refine hK.out _ _ (KP.out _ hk) (fun hHeld => ?_)
            clear hK K
            try (conv => arg 8; simp only [Act.put, List.setIfInBounds_toArray, List.set_cons_zero, List.set_cons_succ])
            exact J1.out _ _ _ _ (by kernel_rfl) (by kernel_rfl) ⟨⟨_, _, _, _, _, _, _, _, _, _, _, _, _, _, _, _, _, _, _, _, _, _, _, _, _, _, _, _, _, _, _, _, _, _, _, _, _, _, _, _, _, _, _, _, _, _, _, _, _, _, _, _, _, _, _, _, rfl⟩, hk⟩
          refine AllReadyH.cons (o := { dst := some 30, op := Op.buildSlice 22 1 #[(0, Operand.tmp 29)], type := 22, pos := "law.go:151", after := #[{ on := 13, ground := Ground.data }, { on := 5, ground := Ground.guard }], guard := some (5, true) }) rfl (fun K hK => ?_) AllReadyH.nil
          refine want (by kernel_rfl) ?_
          refine opOne 30 (.tmp 29) (a') (b') rfl rfl rfl ?_
          intro g14 y14 F14 hb
          replace F11 := Lib.hid (SpansIn.below F11.out hb (Nat.le_refl _))
          replace S9 := Lib.hid (SpansIn.below S9.out hb (Nat.le_refl _))
          replace hk := kc hb hk
          clear hb hHeld
          refine hK.out _ _ (KP.out _ hk) (fun hHeld => ?_)
          clear hK K
          try (conv => arg 8; simp only [Act.put, List.setIfInBounds_toArray, List.set_cons_zero, List.set_cons_succ])
          refine wpAnyH_ready (rs := [12]) (by kernel_rfl) (by simp) ?_
          refine AllReadyH.cons (o := { dst := some 28, op := Op.call { callee := Callee.value (Operand.func 12), args := #[Operand.tmp 27], argTypes := #[22] }, type := 26, pos := "law.go:151", after := #[{ on := 11, ground := Ground.data }, { on := 9, ground := Ground.chain }, { on := 5, ground := Ground.guard }], guard := some (5, true) }) rfl (fun K hK => ?_) AllReadyH.nil
          refine want (by kernel_rfl) ?_
          refine opCall (ent_Of _ _ _ _ _ _ _ _ _) ?_
          refine (OfOne _ _ (a) (b) _ H64A.out.1 H64A.out.2 F11.out).mono ?_
          rintro e y12 ⟨v12, rfl, hs, hb, -⟩
          clear F11
          replace S9 := Lib.hid (SpansIn.below S9.out hb (Nat.le_refl _))
          replace F14 := Lib.hid (SpansIn.below F14.out hb (Nat.le_refl _))
          replace hk := kc hb hk
          clear hb hHeld
          have I12 := Lib.hid hs
          clear hs
          refine hK.out _ _ (KP.out _ hk) (fun hHeld => ?_)
          clear hK K
          try (conv => arg 8; simp only [Act.put, List.setIfInBounds_toArray, List.set_cons_zero, List.set_cons_succ])
          refine wpAnyH_ready (rs := [15]) (by kernel_rfl) (by simp) ?_
          refine AllReadyH.cons (o := { dst := some 31, op := Op.call { callee := Callee.value (Operand.func 12), args := #[Operand.tmp 30], argTypes := #[22] }, type := 26, pos := "law.go:151", after := #[{ on := 14, ground := Ground.data }, { on := 12, ground := Ground.chain }, { on := 5, ground := Ground.guard }], guard := some (5, true) }) rfl (fun K hK => ?_) AllReadyH.nil
          refine want (by kernel_rfl) ?_
          refine opCall (ent_Of _ _ _ _ _ _ _ _ _) ?_
          refine (OfOne _ _ (a') (b') _ H64B.out.1 H64B.out.2 F14.out).mono ?_
          rintro e y15 ⟨v15, rfl, hs, hb, -⟩
          clear F14
          replace S9 := Lib.hid (SpansIn.below S9.out hb (Nat.le_refl _))
          replace I12 := Lib.hid (IsSet.below I12.out hb (Nat.le_refl _))
          replace hk := kc hb hk
          clear hb hHeld
          have I15 := Lib.hid hs
          clear hs
          refine hK.out _ _ (KP.out _ hk) (fun hHeld => ?_)
          clear hK K
          try (conv => arg 8; simp only [Act.put, List.setIfInBounds_toArray, List.set_cons_zero, List.set_cons_succ])
          refine wpAnyH_ready (rs := [16]) (by kernel_rfl) (by simp) ?_
          refine AllReadyH.cons (o := { dst := some 32, op := Op.call { callee := Callee.value (Operand.func 18), args := #[Operand.tmp 28, Operand.tmp 31], argTypes := #[26, 26] }, type := 26, pos := "law.go:151", after := #[{ on := 12, ground := Ground.data }, { on := 15, ground := Ground.data }, { on := 15, ground := Ground.chain }, { on := 5, ground := Ground.guard }], guard := some (5, true) }) rfl (fun K hK => ?_) AllReadyH.nil
          refine want (by kernel_rfl) ?_
          refine opCall (ent_Meet _ _ _ _ _ _ _ _ _ _) ?_
          refine (MeetK I12.out I15.out (by omega) (by omega)).mono ?_
          rintro e y16 ⟨v16, rfl, hs, hb, -⟩
          clear I12 I15
          replace S9 := Lib.hid (SpansIn.below S9.out hb (Nat.le_refl _))
          replace hk := kc hb hk
          clear hb hHeld
          have I16 := Lib.hid hs
          clear hs
          refine hK.out _ _ (KP.out _ hk) (fun hHeld => ?_)
          clear hK K
          try (conv => arg 8; simp only [Act.put, List.setIfInBounds_toArray, List.set_cons_zero, List.set_cons_succ])
          refine wpAnyH_ready (rs := [17]) (by kernel_rfl) (by simp) ?_
          refine AllReadyH.cons (o := { dst := some 33, op := Op.call { callee := Callee.value (Operand.func 15), args := #[Operand.tmp 32], argTypes := #[26] }, type := 22, pos := "law.go:151", after := #[{ on := 16, ground := Ground.data }, { on := 16, ground := Ground.chain }, { on := 5, ground := Ground.guard }], guard := some (5, true) }) rfl (fun K hK => ?_) AllReadyH.nil
          refine want (by kernel_rfl) ?_
          refine opCall (ent_All _ _ _ _ _ _ _ _ _) ?_
          refine (AllK I16.out (by omega)).mono ?_
          rintro e y17 ⟨K17, q17, c17, rfl, kx, mx, -, lx, sx, hb⟩
          clear I16
          replace S9 := Lib.hid (SpansIn.below S9.out hb (Nat.le_refl _))
          replace hk := kc hb hk
          clear hb hHeld
          have H17 : Hid (Canon K17 ∧ (∀ d, Mem K17 d ↔ (hasB [(a, b)] d && hasB [(a', b')] d) = true) ∧ K17.length ≤ (2 * 2 + 2 * 2)) := Lib.hid ⟨kx, mx, lx⟩
          have S17 := Lib.hid sx
          clear kx mx lx sx
          refine hK.out _ _ (KP.out _ hk) (fun hHeld => ?_)
          clear hK K
          try (conv => arg 8; simp only [Act.put, List.setIfInBounds_toArray, List.set_cons_zero, List.set_cons_succ])
          refine wpAnyH_ready (rs := [18]) (by kernel_rfl) (by simp) ?_
          refine AllReadyH.cons (o := { dst := some 34, op := Op.call { callee := Callee.value (Operand.func 14), args := #[Operand.tmp 25, Operand.tmp 33], argTypes := #[22, 22] }, type := 4, pos := "law.go:151", after := #[{ on := 9, ground := Ground.data }, { on := 17, ground := Ground.data }, { on := 17, ground := Ground.chain }, { on := 5, ground := Ground.guard }], guard := some (5, true) }) rfl (fun K hK => ?_) AllReadyH.nil
          refine want (by kernel_rfl) ?_
          refine opCall (ent_Same _ _ _ _ _ _ _ _ _ _) ?_
          refine (SameK S9.out S17.out (by have := H9.out.2.2; omega) (canon_eq H9.out.1 H17.out.1 H9.out.2.1 H17.out.2.1 (fun d => HX.out d))).mono ?_
          rintro e y18 ⟨rfl, hb⟩
          clear S9 S17
          clear H9 H17
          replace hk := kc hb hk
          clear hb hHeld
          refine hK.out _ _ (KP.out _ hk) (fun hHeld => ?_)
          clear hK K
          try (conv => arg 8; simp only [Act.put, List.setIfInBounds_toArray, List.set_cons_zero, List.set_cons_succ])
          exact J1.out _ _ _ _ (by kernel_rfl) (by kernel_rfl) ⟨⟨_, _, _, _, _, _, _, _, _, _, _, _, _, _, _, _, _, _, _, _, _, _, _, _, _, _, _, _, _, _, _, _, _, _, _, _, _, _, _, _, _, _, _, _, _, _, _, _, _, _, _, _, _, _, _, _, rfl⟩, hk⟩
        refine AllReadyH.cons (o := { dst := some 30, op := Op.buildSlice 22 1 #[(0, Operand.tmp 29)], type := 22, pos := "law.go:151", after := #[{ on := 13, ground := Ground.data }, { on := 5, ground := Ground.guard }], guard := some (5, true) }) rfl (fun K hK => ?_) AllReadyH.nil
        refine want (by kernel_rfl) ?_
        refine opOne 30 (.tmp 29) (a') (b') rfl rfl rfl ?_
        intro g14 y14 F14 hb
        replace F11 := Lib.hid (SpansIn.below F11.out hb (Nat.le_refl _))
        replace I8 := Lib.hid (IsSet.below I8.out hb (Nat.le_refl _))
        replace hk := kc hb hk
        clear hb hHeld
        refine hK.out _ _ (KP.out _ hk) (fun hHeld => ?_)
        clear hK K
        try (conv => arg 8; simp only [Act.put, List.setIfInBounds_toArray, List.set_cons_zero, List.set_cons_succ])
        refine wpAnyH_ready (rs := [9]) (by kernel_rfl) (by simp) ?_
        refine AllReadyH.cons (o := { dst := some 25, op := Op.call { callee := Callee.value (Operand.func 15), args := #[Operand.tmp 24], argTypes := #[26] }, type := 22, pos := "law.go:151", after := #[{ on := 8, ground := Ground.data }, { on := 8, ground := Ground.chain }, { on := 5, ground := Ground.guard }], guard := some (5, true) }) rfl (fun K hK => ?_) AllReadyH.nil
        refine want (by kernel_rfl) ?_
        refine opCall (ent_All _ _ _ _ _ _ _ _ _) ?_
        refine (AllK I8.out (by omega)).mono ?_
        rintro e y9 ⟨K9, q9, c9, rfl, kx, mx, -, lx, sx, hb⟩
        clear I8
        replace F11 := Lib.hid (SpansIn.below F11.out hb (Nat.le_refl _))
        replace F14 := Lib.hid (SpansIn.below F14.out hb (Nat.le_refl _))
        replace hk := kc hb hk
        clear hb hHeld
        have H9 : Hid (Canon K9 ∧ (∀ d, Mem K9 d ↔ hasB [(X0, Y0)] d = true) ∧ K9.length ≤ 2) := Lib.hid ⟨kx, mx, lx⟩
        have S9 := Lib.hid sx
        clear kx mx lx sx
        refine hK.out _ _ (KP.out _ hk) (fun hHeld => ?_)
        clear hK K
        try (conv => arg 8; simp only [Act.put, List.setIfInBounds_toArray, List.set_cons_zero, List.set_cons_succ])
        refine wpAnyH_ready (rs := [12]) (by kernel_rfl) (by simp) ?_
        refine AllReadyH.cons (o := { dst := some 28, op := Op.call { callee := Callee.value (Operand.func 12), args := #[Operand.tmp 27], argTypes := #[22] }, type := 26, pos := "law.go:151", after := #[{ on := 11, ground := Ground.data }, { on := 9, ground := Ground.chain }, { on := 5, ground := Ground.guard }], guard := some (5, true) }) rfl (fun K hK => ?_) AllReadyH.nil
        refine want (by kernel_rfl) ?_
        refine opCall (ent_Of _ _ _ _ _ _ _ _ _) ?_
        refine (OfOne _ _ (a) (b) _ H64A.out.1 H64A.out.2 F11.out).mono ?_
        rintro e y12 ⟨v12, rfl, hs, hb, -⟩
        clear F11
        replace F14 := Lib.hid (SpansIn.below F14.out hb (Nat.le_refl _))
        replace S9 := Lib.hid (SpansIn.below S9.out hb (Nat.le_refl _))
        replace hk := kc hb hk
        clear hb hHeld
        have I12 := Lib.hid hs
        clear hs
        refine hK.out _ _ (KP.out _ hk) (fun hHeld => ?_)
        clear hK K
        try (conv => arg 8; simp only [Act.put, List.setIfInBounds_toArray, List.set_cons_zero, List.set_cons_succ])
        refine wpAnyH_ready (rs := [15]) (by kernel_rfl) (by simp) ?_
        refine AllReadyH.cons (o := { dst := some 31, op := Op.call { callee := Callee.value (Operand.func 12), args := #[Operand.tmp 30], argTypes := #[22] }, type := 26, pos := "law.go:151", after := #[{ on := 14, ground := Ground.data }, { on := 12, ground := Ground.chain }, { on := 5, ground := Ground.guard }], guard := some (5, true) }) rfl (fun K hK => ?_) AllReadyH.nil
        refine want (by kernel_rfl) ?_
        refine opCall (ent_Of _ _ _ _ _ _ _ _ _) ?_
        refine (OfOne _ _ (a') (b') _ H64B.out.1 H64B.out.2 F14.out).mono ?_
        rintro e y15 ⟨v15, rfl, hs, hb, -⟩
        clear F14
        replace S9 := Lib.hid (SpansIn.below S9.out hb (Nat.le_refl _))
        replace I12 := Lib.hid (IsSet.below I12.out hb (Nat.le_refl _))
        replace hk := kc hb hk
        clear hb hHeld
        have I15 := Lib.hid hs
        clear hs
        refine hK.out _ _ (KP.out _ hk) (fun hHeld => ?_)
        clear hK K
        try (conv => arg 8; simp only [Act.put, List.setIfInBounds_toArray, List.set_cons_zero, List.set_cons_succ])
        refine wpAnyH_ready (rs := [16]) (by kernel_rfl) (by simp) ?_
        refine AllReadyH.cons (o := { dst := some 32, op := Op.call { callee := Callee.value (Operand.func 18), args := #[Operand.tmp 28, Operand.tmp 31], argTypes := #[26, 26] }, type := 26, pos := "law.go:151", after := #[{ on := 12, ground := Ground.data }, { on := 15, ground := Ground.data }, { on := 15, ground := Ground.chain }, { on := 5, ground := Ground.guard }], guard := some (5, true) }) rfl (fun K hK => ?_) AllReadyH.nil
        refine want (by kernel_rfl) ?_
        refine opCall (ent_Meet _ _ _ _ _ _ _ _ _ _) ?_
        refine (MeetK I12.out I15.out (by omega) (by omega)).mono ?_
        rintro e y16 ⟨v16, rfl, hs, hb, -⟩
        clear I12 I15
        replace S9 := Lib.hid (SpansIn.below S9.out hb (Nat.le_refl _))
        replace hk := kc hb hk
        clear hb hHeld
        have I16 := Lib.hid hs
        clear hs
        refine hK.out _ _ (KP.out _ hk) (fun hHeld => ?_)
        clear hK K
        try (conv => arg 8; simp only [Act.put, List.setIfInBounds_toArray, List.set_cons_zero, List.set_cons_succ])
        refine wpAnyH_ready (rs := [17]) (by kernel_rfl) (by simp) ?_
        refine AllReadyH.cons (o := { dst := some 33, op := Op.call { callee := Callee.value (Operand.func 15), args := #[Operand.tmp 32], argTypes := #[26] }, type := 22, pos := "law.go:151", after := #[{ on := 16, ground := Ground.data }, { on := 16, ground := Ground.chain }, { on := 5, ground := Ground.guard }], guard := some (5, true) }) rfl (fun K hK => ?_) AllReadyH.nil
        refine want (by kernel_rfl) ?_
        refine opCall (ent_All _ _ _ _ _ _ _ _ _) ?_
        refine (AllK I16.out (by omega)).mono ?_
        rintro e y17 ⟨K17, q17, c17, rfl, kx, mx, -, lx, sx, hb⟩
        clear I16
        replace S9 := Lib.hid (SpansIn.below S9.out hb (Nat.le_refl _))
        replace hk := kc hb hk
        clear hb hHeld
        have H17 : Hid (Canon K17 ∧ (∀ d, Mem K17 d ↔ (hasB [(a, b)] d && hasB [(a', b')] d) = true) ∧ K17.length ≤ (2 * 2 + 2 * 2)) := Lib.hid ⟨kx, mx, lx⟩
        have S17 := Lib.hid sx
        clear kx mx lx sx
        refine hK.out _ _ (KP.out _ hk) (fun hHeld => ?_)
        clear hK K
        try (conv => arg 8; simp only [Act.put, List.setIfInBounds_toArray, List.set_cons_zero, List.set_cons_succ])
        refine wpAnyH_ready (rs := [18]) (by kernel_rfl) (by simp) ?_
        refine AllReadyH.cons (o := { dst := some 34, op := Op.call { callee := Callee.value (Operand.func 14), args := #[Operand.tmp 25, Operand.tmp 33], argTypes := #[22, 22] }, type := 4, pos := "law.go:151", after := #[{ on := 9, ground := Ground.data }, { on := 17, ground := Ground.data }, { on := 17, ground := Ground.chain }, { on := 5, ground := Ground.guard }], guard := some (5, true) }) rfl (fun K hK => ?_) AllReadyH.nil
        refine want (by kernel_rfl) ?_
        refine opCall (ent_Same _ _ _ _ _ _ _ _ _ _) ?_
        refine (SameK S9.out S17.out (by have := H9.out.2.2; omega) (canon_eq H9.out.1 H17.out.1 H9.out.2.1 H17.out.2.1 (fun d => HX.out d))).mono ?_
        rintro e y18 ⟨rfl, hb⟩
        clear S9 S17
        clear H9 H17
        replace hk := kc hb hk
        clear hb hHeld
        refine hK.out _ _ (KP.out _ hk) (fun hHeld => ?_)
        clear hK K
        try (conv => arg 8; simp only [Act.put, List.setIfInBounds_toArray, List.set_cons_zero, List.set_cons_succ])
        exact J1.out _ _ _ _ (by kernel_rfl) (by kernel_rfl) ⟨⟨_, _, _, _, _, _, _, _, _, _, _, _, _, _, _, _, _, _, _, _, _, _, _, _, _, _, _, _, _, _, _, _, _, _, _, _, _, _, _, _, _, _, _, _, _, _, _, _, _, _, _, _, _, _, _, _, rfl⟩, hk⟩
      refine AllReadyH.cons (o := { dst := some 30, op := Op.buildSlice 22 1 #[(0, Operand.tmp 29)], type := 22, pos := "law.go:151", after := #[{ on := 13, ground := Ground.data }, { on := 5, ground := Ground.guard }], guard := some (5, true) }) rfl (fun K hK => ?_) AllReadyH.nil
      refine want (by kernel_rfl) ?_
      refine opOne 30 (.tmp 29) (a') (b') rfl rfl rfl ?_
      intro g14 y14 F14 hb
      replace F11 := Lib.hid (SpansIn.below F11.out hb (Nat.le_refl _))
      replace F7 := Lib.hid (SpansIn.below F7.out hb (Nat.le_refl _))
      replace hk := kc hb hk
      clear hb hHeld
      refine hK.out _ _ (KP.out _ hk) (fun hHeld => ?_)
      clear hK K
      try (conv => arg 8; simp only [Act.put, List.setIfInBounds_toArray, List.set_cons_zero, List.set_cons_succ])
      refine wpAnyH_ready (rs := [8]) (by kernel_rfl) (by simp) ?_
      refine AllReadyH.cons (o := { dst := some 24, op := Op.call { callee := Callee.value (Operand.func 12), args := #[Operand.tmp 23], argTypes := #[22] }, type := 26, pos := "law.go:151", after := #[{ on := 7, ground := Ground.data }, { on := 5, ground := Ground.chain }, { on := 5, ground := Ground.guard }], guard := some (5, true) }) rfl (fun K hK => ?_) AllReadyH.nil
      refine want (by kernel_rfl) ?_
      refine opCall (ent_Of _ _ _ _ _ _ _ _ _) ?_
      refine (OfOne _ _ (X0) (Y0) _ H64X.out.1 H64X.out.2 F7.out).mono ?_
      rintro e y8 ⟨v8, rfl, hs, hb, -⟩
      clear F7
      replace F11 := Lib.hid (SpansIn.below F11.out hb (Nat.le_refl _))
      replace F14 := Lib.hid (SpansIn.below F14.out hb (Nat.le_refl _))
      replace hk := kc hb hk
      clear hb hHeld
      have I8 := Lib.hid hs
      clear hs
      refine hK.out _ _ (KP.out _ hk) (fun hHeld => ?_)
      clear hK K
      try (conv => arg 8; simp only [Act.put, List.setIfInBounds_toArray, List.set_cons_zero, List.set_cons_succ])
      refine wpAnyH_ready (rs := [9]) (by kernel_rfl) (by simp) ?_
      refine AllReadyH.cons (o := { dst := some 25, op := Op.call { callee := Callee.value (Operand.func 15), args := #[Operand.tmp 24], argTypes := #[26] }, type := 22, pos := "law.go:151", after := #[{ on := 8, ground := Ground.data }, { on := 8, ground := Ground.chain }, { on := 5, ground := Ground.guard }], guard := some (5, true) }) rfl (fun K hK => ?_) AllReadyH.nil
      refine want (by kernel_rfl) ?_
      refine opCall (ent_All _ _ _ _ _ _ _ _ _) ?_
      refine (AllK I8.out (by omega)).mono ?_
      rintro e y9 ⟨K9, q9, c9, rfl, kx, mx, -, lx, sx, hb⟩
      clear I8
      replace F11 := Lib.hid (SpansIn.below F11.out hb (Nat.le_refl _))
      replace F14 := Lib.hid (SpansIn.below F14.out hb (Nat.le_refl _))
      replace hk := kc hb hk
      clear hb hHeld
      have H9 : Hid (Canon K9 ∧ (∀ d, Mem K9 d ↔ hasB [(X0, Y0)] d = true) ∧ K9.length ≤ 2) := Lib.hid ⟨kx, mx, lx⟩
      have S9 := Lib.hid sx
      clear kx mx lx sx
      refine hK.out _ _ (KP.out _ hk) (fun hHeld => ?_)
      clear hK K
      try (conv => arg 8; simp only [Act.put, List.setIfInBounds_toArray, List.set_cons_zero, List.set_cons_succ])
      refine wpAnyH_ready (rs := [12]) (by kernel_rfl) (by simp) ?_
      refine AllReadyH.cons (o := { dst := some 28, op := Op.call { callee := Callee.value (Operand.func 12), args := #[Operand.tmp 27], argTypes := #[22] }, type := 26, pos := "law.go:151", after := #[{ on := 11, ground := Ground.data }, { on := 9, ground := Ground.chain }, { on := 5, ground := Ground.guard }], guard := some (5, true) }) rfl (fun K hK => ?_) AllReadyH.nil
      refine want (by kernel_rfl) ?_
      refine opCall (ent_Of _ _ _ _ _ _ _ _ _) ?_
      refine (OfOne _ _ (a) (b) _ H64A.out.1 H64A.out.2 F11.out).mono ?_
      rintro e y12 ⟨v12, rfl, hs, hb, -⟩
      clear F11
      replace F14 := Lib.hid (SpansIn.below F14.out hb (Nat.le_refl _))
      replace S9 := Lib.hid (SpansIn.below S9.out hb (Nat.le_refl _))
      replace hk := kc hb hk
      clear hb hHeld
      have I12 := Lib.hid hs
      clear hs
      refine hK.out _ _ (KP.out _ hk) (fun hHeld => ?_)
      clear hK K
      try (conv => arg 8; simp only [Act.put, List.setIfInBounds_toArray, List.set_cons_zero, List.set_cons_succ])
      refine wpAnyH_ready (rs := [15]) (by kernel_rfl) (by simp) ?_
      refine AllReadyH.cons (o := { dst := some 31, op := Op.call { callee := Callee.value (Operand.func 12), args := #[Operand.tmp 30], argTypes := #[22] }, type := 26, pos := "law.go:151", after := #[{ on := 14, ground := Ground.data }, { on := 12, ground := Ground.chain }, { on := 5, ground := Ground.guard }], guard := some (5, true) }) rfl (fun K hK => ?_) AllReadyH.nil
      refine want (by kernel_rfl) ?_
      refine opCall (ent_Of _ _ _ _ _ _ _ _ _) ?_
      refine (OfOne _ _ (a') (b') _ H64B.out.1 H64B.out.2 F14.out).mono ?_
      rintro e y15 ⟨v15, rfl, hs, hb, -⟩
      clear F14
      replace S9 := Lib.hid (SpansIn.below S9.out hb (Nat.le_refl _))
      replace I12 := Lib.hid (IsSet.below I12.out hb (Nat.le_refl _))
      replace hk := kc hb hk
      clear hb hHeld
      have I15 := Lib.hid hs
      clear hs
      refine hK.out _ _ (KP.out _ hk) (fun hHeld => ?_)
      clear hK K
      try (conv => arg 8; simp only [Act.put, List.setIfInBounds_toArray, List.set_cons_zero, List.set_cons_succ])
      refine wpAnyH_ready (rs := [16]) (by kernel_rfl) (by simp) ?_
      refine AllReadyH.cons (o := { dst := some 32, op := Op.call { callee := Callee.value (Operand.func 18), args := #[Operand.tmp 28, Operand.tmp 31], argTypes := #[26, 26] }, type := 26, pos := "law.go:151", after := #[{ on := 12, ground := Ground.data }, { on := 15, ground := Ground.data }, { on := 15, ground := Ground.chain }, { on := 5, ground := Ground.guard }], guard := some (5, true) }) rfl (fun K hK => ?_) AllReadyH.nil
      refine want (by kernel_rfl) ?_
      refine opCall (ent_Meet _ _ _ _ _ _ _ _ _ _) ?_
      refine (MeetK I12.out I15.out (by omega) (by omega)).mono ?_
      rintro e y16 ⟨v16, rfl, hs, hb, -⟩
      clear I12 I15
      replace S9 := Lib.hid (SpansIn.below S9.out hb (Nat.le_refl _))
      replace hk := kc hb hk
      clear hb hHeld
      have I16 := Lib.hid hs
      clear hs
      refine hK.out _ _ (KP.out _ hk) (fun hHeld => ?_)
      clear hK K
      try (conv => arg 8; simp only [Act.put, List.setIfInBounds_toArray, List.set_cons_zero, List.set_cons_succ])
      refine wpAnyH_ready (rs := [17]) (by kernel_rfl) (by simp) ?_
      refine AllReadyH.cons (o := { dst := some 33, op := Op.call { callee := Callee.value (Operand.func 15), args := #[Operand.tmp 32], argTypes := #[26] }, type := 22, pos := "law.go:151", after := #[{ on := 16, ground := Ground.data }, { on := 16, ground := Ground.chain }, { on := 5, ground := Ground.guard }], guard := some (5, true) }) rfl (fun K hK => ?_) AllReadyH.nil
      refine want (by kernel_rfl) ?_
      refine opCall (ent_All _ _ _ _ _ _ _ _ _) ?_
      refine (AllK I16.out (by omega)).mono ?_
      rintro e y17 ⟨K17, q17, c17, rfl, kx, mx, -, lx, sx, hb⟩
      clear I16
      replace S9 := Lib.hid (SpansIn.below S9.out hb (Nat.le_refl _))
      replace hk := kc hb hk
      clear hb hHeld
      have H17 : Hid (Canon K17 ∧ (∀ d, Mem K17 d ↔ (hasB [(a, b)] d && hasB [(a', b')] d) = true) ∧ K17.length ≤ (2 * 2 + 2 * 2)) := Lib.hid ⟨kx, mx, lx⟩
      have S17 := Lib.hid sx
      clear kx mx lx sx
      refine hK.out _ _ (KP.out _ hk) (fun hHeld => ?_)
      clear hK K
      try (conv => arg 8; simp only [Act.put, List.setIfInBounds_toArray, List.set_cons_zero, List.set_cons_succ])
      refine wpAnyH_ready (rs := [18]) (by kernel_rfl) (by simp) ?_
      refine AllReadyH.cons (o := { dst := some 34, op := Op.call { callee := Callee.value (Operand.func 14), args := #[Operand.tmp 25, Operand.tmp 33], argTypes := #[22, 22] }, type := 4, pos := "law.go:151", after := #[{ on := 9, ground := Ground.data }, { on := 17, ground := Ground.data }, { on := 17, ground := Ground.chain }, { on := 5, ground := Ground.guard }], guard := some (5, true) }) rfl (fun K hK => ?_) AllReadyH.nil
      refine want (by kernel_rfl) ?_
      refine opCall (ent_Same _ _ _ _ _ _ _ _ _ _) ?_
      refine (SameK S9.out S17.out (by have := H9.out.2.2; omega) (canon_eq H9.out.1 H17.out.1 H9.out.2.1 H17.out.2.1 (fun d => HX.out d))).mono ?_
      rintro e y18 ⟨rfl, hb⟩
      clear S9 S17
      clear H9 H17
      replace hk := kc hb hk
      clear hb hHeld
      refine hK.out _ _ (KP.out _ hk) (fun hHeld => ?_)
      clear hK K
      try (conv => arg 8; simp only [Act.put, List.setIfInBounds_toArray, List.set_cons_zero, List.set_cons_succ])
      exact J1.out _ _ _ _ (by kernel_rfl) (by kernel_rfl) ⟨⟨_, _, _, _, _, _, _, _, _, _, _, _, _, _, _, _, _, _, _, _, _, _, _, _, _, _, _, _, _, _, _, _, _, _, _, _, _, _, _, _, _, _, _, _, _, _, _, _, _, _, _, _, _, _, _, _, rfl⟩, hk⟩
    refine AllReadyH.cons (o := { dst := some 30, op := Op.buildSlice 22 1 #[(0, Operand.tmp 29)], type := 22, pos := "law.go:151", after := #[{ on := 13, ground := Ground.data }, { on := 5, ground := Ground.guard }], guard := some (5, true) }) rfl (fun K hK => ?_) AllReadyH.nil
    refine want (by kernel_rfl) ?_
    refine opOne 30 (.tmp 29) (a') (b') rfl rfl rfl ?_
    intro g14 y14 F14 hb
    replace F11 := Lib.hid (SpansIn.below F11.out hb (Nat.le_refl _))
    replace hk := kc hb hk
    clear hb hHeld
    refine hK.out _ _ (KP.out _ hk) (fun hHeld => ?_)
    clear hK K
    try (conv => arg 8; simp only [Act.put, List.setIfInBounds_toArray, List.set_cons_zero, List.set_cons_succ])
    refine wpAnyH_ready (rs := [7]) (by kernel_rfl) (by simp) ?_
    refine AllReadyH.cons (o := { dst := some 23, op := Op.buildSlice 22 1 #[(0, Operand.tmp 22)], type := 22, pos := "law.go:151", after := #[{ on := 6, ground := Ground.data }, { on := 5, ground := Ground.guard }], guard := some (5, true) }) rfl (fun K hK => ?_) AllReadyH.nil
    refine want (by kernel_rfl) ?_
    refine opOne 23 (.tmp 22) (X0) (Y0) rfl rfl rfl ?_
    intro g7 y7 F7 hb
    replace F11 := Lib.hid (SpansIn.below F11.out hb (Nat.le_refl _))
    replace F14 := Lib.hid (SpansIn.below F14.out hb (Nat.le_refl _))
    replace hk := kc hb hk
    clear hb hHeld
    refine hK.out _ _ (KP.out _ hk) (fun hHeld => ?_)
    clear hK K
    try (conv => arg 8; simp only [Act.put, List.setIfInBounds_toArray, List.set_cons_zero, List.set_cons_succ])
    refine wpAnyH_ready (rs := [8]) (by kernel_rfl) (by simp) ?_
    refine AllReadyH.cons (o := { dst := some 24, op := Op.call { callee := Callee.value (Operand.func 12), args := #[Operand.tmp 23], argTypes := #[22] }, type := 26, pos := "law.go:151", after := #[{ on := 7, ground := Ground.data }, { on := 5, ground := Ground.chain }, { on := 5, ground := Ground.guard }], guard := some (5, true) }) rfl (fun K hK => ?_) AllReadyH.nil
    refine want (by kernel_rfl) ?_
    refine opCall (ent_Of _ _ _ _ _ _ _ _ _) ?_
    refine (OfOne _ _ (X0) (Y0) _ H64X.out.1 H64X.out.2 F7.out).mono ?_
    rintro e y8 ⟨v8, rfl, hs, hb, -⟩
    clear F7
    replace F11 := Lib.hid (SpansIn.below F11.out hb (Nat.le_refl _))
    replace F14 := Lib.hid (SpansIn.below F14.out hb (Nat.le_refl _))
    replace hk := kc hb hk
    clear hb hHeld
    have I8 := Lib.hid hs
    clear hs
    refine hK.out _ _ (KP.out _ hk) (fun hHeld => ?_)
    clear hK K
    try (conv => arg 8; simp only [Act.put, List.setIfInBounds_toArray, List.set_cons_zero, List.set_cons_succ])
    refine wpAnyH_ready (rs := [9]) (by kernel_rfl) (by simp) ?_
    refine AllReadyH.cons (o := { dst := some 25, op := Op.call { callee := Callee.value (Operand.func 15), args := #[Operand.tmp 24], argTypes := #[26] }, type := 22, pos := "law.go:151", after := #[{ on := 8, ground := Ground.data }, { on := 8, ground := Ground.chain }, { on := 5, ground := Ground.guard }], guard := some (5, true) }) rfl (fun K hK => ?_) AllReadyH.nil
    refine want (by kernel_rfl) ?_
    refine opCall (ent_All _ _ _ _ _ _ _ _ _) ?_
    refine (AllK I8.out (by omega)).mono ?_
    rintro e y9 ⟨K9, q9, c9, rfl, kx, mx, -, lx, sx, hb⟩
    clear I8
    replace F11 := Lib.hid (SpansIn.below F11.out hb (Nat.le_refl _))
    replace F14 := Lib.hid (SpansIn.below F14.out hb (Nat.le_refl _))
    replace hk := kc hb hk
    clear hb hHeld
    have H9 : Hid (Canon K9 ∧ (∀ d, Mem K9 d ↔ hasB [(X0, Y0)] d = true) ∧ K9.length ≤ 2) := Lib.hid ⟨kx, mx, lx⟩
    have S9 := Lib.hid sx
    clear kx mx lx sx
    refine hK.out _ _ (KP.out _ hk) (fun hHeld => ?_)
    clear hK K
    try (conv => arg 8; simp only [Act.put, List.setIfInBounds_toArray, List.set_cons_zero, List.set_cons_succ])
    refine wpAnyH_ready (rs := [12]) (by kernel_rfl) (by simp) ?_
    refine AllReadyH.cons (o := { dst := some 28, op := Op.call { callee := Callee.value (Operand.func 12), args := #[Operand.tmp 27], argTypes := #[22] }, type := 26, pos := "law.go:151", after := #[{ on := 11, ground := Ground.data }, { on := 9, ground := Ground.chain }, { on := 5, ground := Ground.guard }], guard := some (5, true) }) rfl (fun K hK => ?_) AllReadyH.nil
    refine want (by kernel_rfl) ?_
    refine opCall (ent_Of _ _ _ _ _ _ _ _ _) ?_
    refine (OfOne _ _ (a) (b) _ H64A.out.1 H64A.out.2 F11.out).mono ?_
    rintro e y12 ⟨v12, rfl, hs, hb, -⟩
    clear F11
    replace F14 := Lib.hid (SpansIn.below F14.out hb (Nat.le_refl _))
    replace S9 := Lib.hid (SpansIn.below S9.out hb (Nat.le_refl _))
    replace hk := kc hb hk
    clear hb hHeld
    have I12 := Lib.hid hs
    clear hs
    refine hK.out _ _ (KP.out _ hk) (fun hHeld => ?_)
    clear hK K
    try (conv => arg 8; simp only [Act.put, List.setIfInBounds_toArray, List.set_cons_zero, List.set_cons_succ])
    refine wpAnyH_ready (rs := [15]) (by kernel_rfl) (by simp) ?_
    refine AllReadyH.cons (o := { dst := some 31, op := Op.call { callee := Callee.value (Operand.func 12), args := #[Operand.tmp 30], argTypes := #[22] }, type := 26, pos := "law.go:151", after := #[{ on := 14, ground := Ground.data }, { on := 12, ground := Ground.chain }, { on := 5, ground := Ground.guard }], guard := some (5, true) }) rfl (fun K hK => ?_) AllReadyH.nil
    refine want (by kernel_rfl) ?_
    refine opCall (ent_Of _ _ _ _ _ _ _ _ _) ?_
    refine (OfOne _ _ (a') (b') _ H64B.out.1 H64B.out.2 F14.out).mono ?_
    rintro e y15 ⟨v15, rfl, hs, hb, -⟩
    clear F14
    replace S9 := Lib.hid (SpansIn.below S9.out hb (Nat.le_refl _))
    replace I12 := Lib.hid (IsSet.below I12.out hb (Nat.le_refl _))
    replace hk := kc hb hk
    clear hb hHeld
    have I15 := Lib.hid hs
    clear hs
    refine hK.out _ _ (KP.out _ hk) (fun hHeld => ?_)
    clear hK K
    try (conv => arg 8; simp only [Act.put, List.setIfInBounds_toArray, List.set_cons_zero, List.set_cons_succ])
    refine wpAnyH_ready (rs := [16]) (by kernel_rfl) (by simp) ?_
    refine AllReadyH.cons (o := { dst := some 32, op := Op.call { callee := Callee.value (Operand.func 18), args := #[Operand.tmp 28, Operand.tmp 31], argTypes := #[26, 26] }, type := 26, pos := "law.go:151", after := #[{ on := 12, ground := Ground.data }, { on := 15, ground := Ground.data }, { on := 15, ground := Ground.chain }, { on := 5, ground := Ground.guard }], guard := some (5, true) }) rfl (fun K hK => ?_) AllReadyH.nil
    refine want (by kernel_rfl) ?_
    refine opCall (ent_Meet _ _ _ _ _ _ _ _ _ _) ?_
    refine (MeetK I12.out I15.out (by omega) (by omega)).mono ?_
    rintro e y16 ⟨v16, rfl, hs, hb, -⟩
    clear I12 I15
    replace S9 := Lib.hid (SpansIn.below S9.out hb (Nat.le_refl _))
    replace hk := kc hb hk
    clear hb hHeld
    have I16 := Lib.hid hs
    clear hs
    refine hK.out _ _ (KP.out _ hk) (fun hHeld => ?_)
    clear hK K
    try (conv => arg 8; simp only [Act.put, List.setIfInBounds_toArray, List.set_cons_zero, List.set_cons_succ])
    refine wpAnyH_ready (rs := [17]) (by kernel_rfl) (by simp) ?_
    refine AllReadyH.cons (o := { dst := some 33, op := Op.call { callee := Callee.value (Operand.func 15), args := #[Operand.tmp 32], argTypes := #[26] }, type := 22, pos := "law.go:151", after := #[{ on := 16, ground := Ground.data }, { on := 16, ground := Ground.chain }, { on := 5, ground := Ground.guard }], guard := some (5, true) }) rfl (fun K hK => ?_) AllReadyH.nil
    refine want (by kernel_rfl) ?_
    refine opCall (ent_All _ _ _ _ _ _ _ _ _) ?_
    refine (AllK I16.out (by omega)).mono ?_
    rintro e y17 ⟨K17, q17, c17, rfl, kx, mx, -, lx, sx, hb⟩
    clear I16
    replace S9 := Lib.hid (SpansIn.below S9.out hb (Nat.le_refl _))
    replace hk := kc hb hk
    clear hb hHeld
    have H17 : Hid (Canon K17 ∧ (∀ d, Mem K17 d ↔ (hasB [(a, b)] d && hasB [(a', b')] d) = true) ∧ K17.length ≤ (2 * 2 + 2 * 2)) := Lib.hid ⟨kx, mx, lx⟩
    have S17 := Lib.hid sx
    clear kx mx lx sx
    refine hK.out _ _ (KP.out _ hk) (fun hHeld => ?_)
    clear hK K
    try (conv => arg 8; simp only [Act.put, List.setIfInBounds_toArray, List.set_cons_zero, List.set_cons_succ])
    refine wpAnyH_ready (rs := [18]) (by kernel_rfl) (by simp) ?_
    refine AllReadyH.cons (o := { dst := some 34, op := Op.call { callee := Callee.value (Operand.func 14), args := #[Operand.tmp 25, Operand.tmp 33], argTypes := #[22, 22] }, type := 4, pos := "law.go:151", after := #[{ on := 9, ground := Ground.data }, { on := 17, ground := Ground.data }, { on := 17, ground := Ground.chain }, { on := 5, ground := Ground.guard }], guard := some (5, true) }) rfl (fun K hK => ?_) AllReadyH.nil
    refine want (by kernel_rfl) ?_
    refine opCall (ent_Same _ _ _ _ _ _ _ _ _ _) ?_
    refine (SameK S9.out S17.out (by have := H9.out.2.2; omega) (canon_eq H9.out.1 H17.out.1 H9.out.2.1 H17.out.2.1 (fun d => HX.out d))).mono ?_
    rintro e y18 ⟨rfl, hb⟩
    clear S9 S17
    clear H9 H17
    replace hk := kc hb hk
    clear hb hHeld
    refine hK.out _ _ (KP.out _ hk) (fun hHeld => ?_)
    clear hK K
    try (conv => arg 8; simp only [Act.put, List.setIfInBounds_toArray, List.set_cons_zero, List.set_cons_succ])
    exact J1.out _ _ _ _ (by kernel_rfl) (by kernel_rfl) ⟨⟨_, _, _, _, _, _, _, _, _, _, _, _, _, _, _, _, _, _, _, _, _, _, _, _, _, _, _, _, _, _, _, _, _, _, _, _, _, _, _, _, _, _, _, _, _, _, _, _, _, _, _, _, _, _, _, _, rfl⟩, hk⟩
  refine AllReadyH.cons (o := { dst := some 30, op := Op.buildSlice 22 1 #[(0, Operand.tmp 29)], type := 22, pos := "law.go:151", after := #[{ on := 13, ground := Ground.data }, { on := 5, ground := Ground.guard }], guard := some (5, true) }) rfl (fun K hK => ?_) AllReadyH.nil
  refine want (by kernel_rfl) ?_
  refine opOne 30 (.tmp 29) (a') (b') rfl rfl rfl ?_
  intro g14 y14 F14 hb
  replace hk := kc hb hk
  clear hb hHeld
  refine hK.out _ _ (KP.out _ hk) (fun hHeld => ?_)
  clear hK K
  try (conv => arg 8; simp only [Act.put, List.setIfInBounds_toArray, List.set_cons_zero, List.set_cons_succ])
  refine wpAnyH_ready (rs := [7,11]) (by kernel_rfl) (by simp) ?_
  refine AllReadyH.cons (o := { dst := some 23, op := Op.buildSlice 22 1 #[(0, Operand.tmp 22)], type := 22, pos := "law.go:151", after := #[{ on := 6, ground := Ground.data }, { on := 5, ground := Ground.guard }], guard := some (5, true) }) rfl (fun K hK => ?_) ?_
  · as_aux_lemma =>
    refine want (by kernel_rfl) ?_
    refine opOne 23 (.tmp 22) (X0) (Y0) rfl rfl rfl ?_
    intro g7 y7 F7 hb
    replace F14 := Lib.hid (SpansIn.below F14.out hb (Nat.le_refl _))
    replace hk := kc hb hk
    clear hb hHeld
    refine hK.out _ _ (KP.out _ hk) (fun hHeld => ?_)
    clear hK K
    try (conv => arg 8; simp only [Act.put, List.setIfInBounds_toArray, List.set_cons_zero, List.set_cons_succ])
    refine wpAnyH_ready (rs := [8,11]) (by kernel_rfl) (by simp) ?_
    refine AllReadyH.cons (o := { dst := some 24, op := Op.call { callee := Callee.value (Operand.func 12), args := #[Operand.tmp 23], argTypes := #[22] }, type := 26, pos := "law.go:151", after := #[{ on := 7, ground := Ground.data }, { on := 5, ground := Ground.chain }, { on := 5, ground := Ground.guard }], guard := some (5, true) }) rfl (fun K hK => ?_) ?_
    · as_aux_lemma =>
      refine want (by kernel_rfl) ?_
      refine opCall (ent_Of _ _ _ _ _ _ _ _ _) ?_
      refine (OfOne _ _ (X0) (Y0) _ H64X.out.1 H64X.out.2 F7.out).mono ?_
      rintro e y8 ⟨v8, rfl, hs, hb, -⟩
      clear F7
      replace F14 := Lib.hid (SpansIn.below F14.out hb (Nat.le_refl _))
      replace hk := kc hb hk
      clear hb hHeld
      have I8 := Lib.hid hs
      clear hs
      refine hK.out _ _ (KP.out _ hk) (fun hHeld => ?_)
      clear hK K
      try (conv => arg 8; simp only [Act.put, List.setIfInBounds_toArray, List.set_cons_zero, List.set_cons_succ])
      refine wpAnyH_ready (rs := [9,11]) (by kernel_rfl) (by simp) ?_
      refine AllReadyH.cons (o := { dst := some 25, op := Op.call { callee := Callee.value (Operand.func 15), args := #[Operand.tmp 24], argTypes := #[26] }, type := 22, pos := "law.go:151", after := #[{ on := 8, ground := Ground.data }, { on := 8, ground := Ground.chain }, { on := 5, ground := Ground.guard }], guard := some (5, true) }) rfl (fun K hK => ?_) ?_
      · as_aux_lemma =>
        refine want (by kernel_rfl) ?_
        refine opCall (ent_All _ _ _ _ _ _ _ _ _) ?_
        refine (AllK I8.out (by omega)).mono ?_
        rintro e y9 ⟨K9, q9, c9, rfl, kx, mx, -, lx, sx, hb⟩
        clear I8
        replace F14 := Lib.hid (SpansIn.below F14.out hb (Nat.le_refl _))
        replace hk := kc hb hk
        clear hb hHeld
        have H9 : Hid (Canon K9 ∧ (∀ d, Mem K9 d ↔ hasB [(X0, Y0)] d = true) ∧ K9.length ≤ 2) := Lib.hid ⟨kx, mx, lx⟩
        have S9 := Lib.hid sx
        clear kx mx lx sx
        refine hK.out _ _ (KP.out _ hk) (fun hHeld => ?_)
        clear hK K
        try (conv => arg 8; simp only [Act.put, List.setIfInBounds_toArray, List.set_cons_zero, List.set_cons_succ])
        refine wpAnyH_ready (rs := [11]) (by kernel_rfl) (by simp) ?_
        refine AllReadyH.cons (o := { dst := some 27, op := Op.buildSlice 22 1 #[(0, Operand.tmp 26)], type := 22, pos := "law.go:151", after := #[{ on := 10, ground := Ground.data }, { on := 5, ground := Ground.guard }], guard := some (5, true) }) rfl (fun K hK => ?_) AllReadyH.nil
        refine want (by kernel_rfl) ?_
        refine opOne 27 (.tmp 26) (a) (b) rfl rfl rfl ?_
        intro g11 y11 F11 hb
        replace F14 := Lib.hid (SpansIn.below F14.out hb (Nat.le_refl _))
        replace S9 := Lib.hid (SpansIn.below S9.out hb (Nat.le_refl _))
        replace hk := kc hb hk
        clear hb hHeld
        refine hK.out _ _ (KP.out _ hk) (fun hHeld => ?_)
        clear hK K
        try (conv => arg 8; simp only [Act.put, List.setIfInBounds_toArray, List.set_cons_zero, List.set_cons_succ])
        refine wpAnyH_ready (rs := [12]) (by kernel_rfl) (by simp) ?_
        refine AllReadyH.cons (o := { dst := some 28, op := Op.call { callee := Callee.value (Operand.func 12), args := #[Operand.tmp 27], argTypes := #[22] }, type := 26, pos := "law.go:151", after := #[{ on := 11, ground := Ground.data }, { on := 9, ground := Ground.chain }, { on := 5, ground := Ground.guard }], guard := some (5, true) }) rfl (fun K hK => ?_) AllReadyH.nil
        refine want (by kernel_rfl) ?_
        refine opCall (ent_Of _ _ _ _ _ _ _ _ _) ?_
        refine (OfOne _ _ (a) (b) _ H64A.out.1 H64A.out.2 F11.out).mono ?_
        rintro e y12 ⟨v12, rfl, hs, hb, -⟩
        clear F11
        replace F14 := Lib.hid (SpansIn.below F14.out hb (Nat.le_refl _))
        replace S9 := Lib.hid (SpansIn.below S9.out hb (Nat.le_refl _))
        replace hk := kc hb hk
        clear hb hHeld
        have I12 := Lib.hid hs
        clear hs
        refine hK.out _ _ (KP.out _ hk) (fun hHeld => ?_)
        clear hK K
        try (conv => arg 8; simp only [Act.put, List.setIfInBounds_toArray, List.set_cons_zero, List.set_cons_succ])
        refine wpAnyH_ready (rs := [15]) (by kernel_rfl) (by simp) ?_
        refine AllReadyH.cons (o := { dst := some 31, op := Op.call { callee := Callee.value (Operand.func 12), args := #[Operand.tmp 30], argTypes := #[22] }, type := 26, pos := "law.go:151", after := #[{ on := 14, ground := Ground.data }, { on := 12, ground := Ground.chain }, { on := 5, ground := Ground.guard }], guard := some (5, true) }) rfl (fun K hK => ?_) AllReadyH.nil
        refine want (by kernel_rfl) ?_
        refine opCall (ent_Of _ _ _ _ _ _ _ _ _) ?_
        refine (OfOne _ _ (a') (b') _ H64B.out.1 H64B.out.2 F14.out).mono ?_
        rintro e y15 ⟨v15, rfl, hs, hb, -⟩
        clear F14
        replace S9 := Lib.hid (SpansIn.below S9.out hb (Nat.le_refl _))
        replace I12 := Lib.hid (IsSet.below I12.out hb (Nat.le_refl _))
        replace hk := kc hb hk
        clear hb hHeld
        have I15 := Lib.hid hs
        clear hs
        refine hK.out _ _ (KP.out _ hk) (fun hHeld => ?_)
        clear hK K
        try (conv => arg 8; simp only [Act.put, List.setIfInBounds_toArray, List.set_cons_zero, List.set_cons_succ])
        refine wpAnyH_ready (rs := [16]) (by kernel_rfl) (by simp) ?_
        refine AllReadyH.cons (o := { dst := some 32, op := Op.call { callee := Callee.value (Operand.func 18), args := #[Operand.tmp 28, Operand.tmp 31], argTypes := #[26, 26] }, type := 26, pos := "law.go:151", after := #[{ on := 12, ground := Ground.data }, { on := 15, ground := Ground.data }, { on := 15, ground := Ground.chain }, { on := 5, ground := Ground.guard }], guard := some (5, true) }) rfl (fun K hK => ?_) AllReadyH.nil
        refine want (by kernel_rfl) ?_
        refine opCall (ent_Meet _ _ _ _ _ _ _ _ _ _) ?_
        refine (MeetK I12.out I15.out (by omega) (by omega)).mono ?_
        rintro e y16 ⟨v16, rfl, hs, hb, -⟩
        clear I12 I15
        replace S9 := Lib.hid (SpansIn.below S9.out hb (Nat.le_refl _))
        replace hk := kc hb hk
        clear hb hHeld
        have I16 := Lib.hid hs
        clear hs
        refine hK.out _ _ (KP.out _ hk) (fun hHeld => ?_)
        clear hK K
        try (conv => arg 8; simp only [Act.put, List.setIfInBounds_toArray, List.set_cons_zero, List.set_cons_succ])
        refine wpAnyH_ready (rs := [17]) (by kernel_rfl) (by simp) ?_
        refine AllReadyH.cons (o := { dst := some 33, op := Op.call { callee := Callee.value (Operand.func 15), args := #[Operand.tmp 32], argTypes := #[26] }, type := 22, pos := "law.go:151", after := #[{ on := 16, ground := Ground.data }, { on := 16, ground := Ground.chain }, { on := 5, ground := Ground.guard }], guard := some (5, true) }) rfl (fun K hK => ?_) AllReadyH.nil
        refine want (by kernel_rfl) ?_
        refine opCall (ent_All _ _ _ _ _ _ _ _ _) ?_
        refine (AllK I16.out (by omega)).mono ?_
        rintro e y17 ⟨K17, q17, c17, rfl, kx, mx, -, lx, sx, hb⟩
        clear I16
        replace S9 := Lib.hid (SpansIn.below S9.out hb (Nat.le_refl _))
        replace hk := kc hb hk
        clear hb hHeld
        have H17 : Hid (Canon K17 ∧ (∀ d, Mem K17 d ↔ (hasB [(a, b)] d && hasB [(a', b')] d) = true) ∧ K17.length ≤ (2 * 2 + 2 * 2)) := Lib.hid ⟨kx, mx, lx⟩
        have S17 := Lib.hid sx
        clear kx mx lx sx
        refine hK.out _ _ (KP.out _ hk) (fun hHeld => ?_)
        clear hK K
        try (conv => arg 8; simp only [Act.put, List.setIfInBounds_toArray, List.set_cons_zero, List.set_cons_succ])
        refine wpAnyH_ready (rs := [18]) (by kernel_rfl) (by simp) ?_
        refine AllReadyH.cons (o := { dst := some 34, op := Op.call { callee := Callee.value (Operand.func 14), args := #[Operand.tmp 25, Operand.tmp 33], argTypes := #[22, 22] }, type := 4, pos := "law.go:151", after := #[{ on := 9, ground := Ground.data }, { on := 17, ground := Ground.data }, { on := 17, ground := Ground.chain }, { on := 5, ground := Ground.guard }], guard := some (5, true) }) rfl (fun K hK => ?_) AllReadyH.nil
        refine want (by kernel_rfl) ?_
        refine opCall (ent_Same _ _ _ _ _ _ _ _ _ _) ?_
        refine (SameK S9.out S17.out (by have := H9.out.2.2; omega) (canon_eq H9.out.1 H17.out.1 H9.out.2.1 H17.out.2.1 (fun d => HX.out d))).mono ?_
        rintro e y18 ⟨rfl, hb⟩
        clear S9 S17
        clear H9 H17
        replace hk := kc hb hk
        clear hb hHeld
        refine hK.out _ _ (KP.out _ hk) (fun hHeld => ?_)
        clear hK K
        try (conv => arg 8; simp only [Act.put, List.setIfInBounds_toArray, List.set_cons_zero, List.set_cons_succ])
        exact J1.out _ _ _ _ (by kernel_rfl) (by kernel_rfl) ⟨⟨_, _, _, _, _, _, _, _, _, _, _, _, _, _, _, _, _, _, _, _, _, _, _, _, _, _, _, _, _, _, _, _, _, _, _, _, _, _, _, _, _, _, _, _, _, _, _, _, _, _, _, _, _, _, _, _, rfl⟩, hk⟩
      refine AllReadyH.cons (o := { dst := some 27, op := Op.buildSlice 22 1 #[(0, Operand.tmp 26)], type := 22, pos := "law.go:151", after := #[{ on := 10, ground := Ground.data }, { on := 5, ground := Ground.guard }], guard := some (5, true) }) rfl (fun K hK => ?_) AllReadyH.nil
      refine want (by kernel_rfl) ?_
      refine opOne 27 (.tmp 26) (a) (b) rfl rfl rfl ?_
      intro g11 y11 F11 hb
      replace F14 := Lib.hid (SpansIn.below F14.out hb (Nat.le_refl _))
      replace I8 := Lib.hid (IsSet.below I8.out hb (Nat.le_refl _))
      replace hk := kc hb hk
      clear hb hHeld
      refine hK.out _ _ (KP.out _ hk) (fun hHeld => ?_)
      clear hK K
      try (conv => arg 8; simp only [Act.put, List.setIfInBounds_toArray, List.set_cons_zero, List.set_cons_succ])
      refine wpAnyH_ready (rs := [9]) (by kernel_rfl) (by simp) ?_
      refine AllReadyH.cons (o := { dst := some 25, op := Op.call { callee := Callee.value (Operand.func 15), args := #[Operand.tmp 24], argTypes := #[26] }, type := 22, pos := "law.go:151", after := #[{ on := 8, ground := Ground.data }, { on := 8, ground := Ground.chain }, { on := 5, ground := Ground.guard }], guard := some (5, true) }) rfl (fun K hK => ?_) AllReadyH.nil
      refine want (by kernel_rfl) ?_
      refine opCall (ent_All _ _ _ _ _ _ _ _ _) ?_
      refine (AllK I8.out (by omega)).mono ?_
      rintro e y9 ⟨K9, q9, c9, rfl, kx, mx, -, lx, sx, hb⟩
      clear I8
      replace F14 := Lib.hid (SpansIn.below F14.out hb (Nat.le_refl _))
      replace F11 := Lib.hid (SpansIn.below F11.out hb (Nat.le_refl _))
      replace hk := kc hb hk
      clear hb hHeld
      have H9 : Hid (Canon K9 ∧ (∀ d, Mem K9 d ↔ hasB [(X0, Y0)] d = true) ∧ K9.length ≤ 2) := Lib.hid ⟨kx, mx, lx⟩
      have S9 := Lib.hid sx
      clear kx mx lx sx
      refine hK.out _ _ (KP.out _ hk) (fun hHeld => ?_)
      clear hK K
      try (conv => arg 8; simp only [Act.put, List.setIfInBounds_toArray, List.set_cons_zero, List.set_cons_succ])
      refine wpAnyH_ready (rs := [12]) (by kernel_rfl) (by simp) ?_
      refine AllReadyH.cons (o := { dst := some 28, op := Op.call { callee := Callee.value (Operand.func 12), args := #[Operand.tmp 27], argTypes := #[22] }, type := 26, pos := "law.go:151", after := #[{ on := 11, ground := Ground.data }, { on := 9, ground := Ground.chain }, { on := 5, ground := Ground.guard }], guard := some (5, true) }) rfl (fun K hK => ?_) AllReadyH.nil
      refine want (by kernel_rfl) ?_
      refine opCall (ent_Of _ _ _ _ _ _ _ _ _) ?_
      refine (OfOne _ _ (a) (b) _ H64A.out.1 H64A.out.2 F11.out).mono ?_
      rintro e y12 ⟨v12, rfl, hs, hb, -⟩
      clear F11
      replace F14 := Lib.hid (SpansIn.below F14.out hb (Nat.le_refl _))
      replace S9 := Lib.hid (SpansIn.below S9.out hb (Nat.le_refl _))
      replace hk := kc hb hk
      clear hb hHeld
      have I12 := Lib.hid hs
      clear hs
      refine hK.out _ _ (KP.out _ hk) (fun hHeld => ?_)
      clear hK K
      try (conv => arg 8; simp only [Act.put, List.setIfInBounds_toArray, List.set_cons_zero, List.set_cons_succ])
      refine wpAnyH_ready (rs := [15]) (by kernel_rfl) (by simp) ?_
      refine AllReadyH.cons (o := { dst := some 31, op := Op.call { callee := Callee.value (Operand.func 12), args := #[Operand.tmp 30], argTypes := #[22] }, type := 26, pos := "law.go:151", after := #[{ on := 14, ground := Ground.data }, { on := 12, ground := Ground.chain }, { on := 5, ground := Ground.guard }], guard := some (5, true) }) rfl (fun K hK => ?_) AllReadyH.nil
      refine want (by kernel_rfl) ?_
      refine opCall (ent_Of _ _ _ _ _ _ _ _ _) ?_
      refine (OfOne _ _ (a') (b') _ H64B.out.1 H64B.out.2 F14.out).mono ?_
      rintro e y15 ⟨v15, rfl, hs, hb, -⟩
      clear F14
      replace S9 := Lib.hid (SpansIn.below S9.out hb (Nat.le_refl _))
      replace I12 := Lib.hid (IsSet.below I12.out hb (Nat.le_refl _))
      replace hk := kc hb hk
      clear hb hHeld
      have I15 := Lib.hid hs
      clear hs
      refine hK.out _ _ (KP.out _ hk) (fun hHeld => ?_)
      clear hK K
      try (conv => arg 8; simp only [Act.put, List.setIfInBounds_toArray, List.set_cons_zero, List.set_cons_succ])
      refine wpAnyH_ready (rs := [16]) (by kernel_rfl) (by simp) ?_
      refine AllReadyH.cons (o := { dst := some 32, op := Op.call { callee := Callee.value (Operand.func 18), args := #[Operand.tmp 28, Operand.tmp 31], argTypes := #[26, 26] }, type := 26, pos := "law.go:151", after := #[{ on := 12, ground := Ground.data }, { on := 15, ground := Ground.data }, { on := 15, ground := Ground.chain }, { on := 5, ground := Ground.guard }], guard := some (5, true) }) rfl (fun K hK => ?_) AllReadyH.nil
      refine want (by kernel_rfl) ?_
      refine opCall (ent_Meet _ _ _ _ _ _ _ _ _ _) ?_
      refine (MeetK I12.out I15.out (by omega) (by omega)).mono ?_
      rintro e y16 ⟨v16, rfl, hs, hb, -⟩
      clear I12 I15
      replace S9 := Lib.hid (SpansIn.below S9.out hb (Nat.le_refl _))
      replace hk := kc hb hk
      clear hb hHeld
      have I16 := Lib.hid hs
      clear hs
      refine hK.out _ _ (KP.out _ hk) (fun hHeld => ?_)
      clear hK K
      try (conv => arg 8; simp only [Act.put, List.setIfInBounds_toArray, List.set_cons_zero, List.set_cons_succ])
      refine wpAnyH_ready (rs := [17]) (by kernel_rfl) (by simp) ?_
      refine AllReadyH.cons (o := { dst := some 33, op := Op.call { callee := Callee.value (Operand.func 15), args := #[Operand.tmp 32], argTypes := #[26] }, type := 22, pos := "law.go:151", after := #[{ on := 16, ground := Ground.data }, { on := 16, ground := Ground.chain }, { on := 5, ground := Ground.guard }], guard := some (5, true) }) rfl (fun K hK => ?_) AllReadyH.nil
      refine want (by kernel_rfl) ?_
      refine opCall (ent_All _ _ _ _ _ _ _ _ _) ?_
      refine (AllK I16.out (by omega)).mono ?_
      rintro e y17 ⟨K17, q17, c17, rfl, kx, mx, -, lx, sx, hb⟩
      clear I16
      replace S9 := Lib.hid (SpansIn.below S9.out hb (Nat.le_refl _))
      replace hk := kc hb hk
      clear hb hHeld
      have H17 : Hid (Canon K17 ∧ (∀ d, Mem K17 d ↔ (hasB [(a, b)] d && hasB [(a', b')] d) = true) ∧ K17.length ≤ (2 * 2 + 2 * 2)) := Lib.hid ⟨kx, mx, lx⟩
      have S17 := Lib.hid sx
      clear kx mx lx sx
      refine hK.out _ _ (KP.out _ hk) (fun hHeld => ?_)
      clear hK K
      try (conv => arg 8; simp only [Act.put, List.setIfInBounds_toArray, List.set_cons_zero, List.set_cons_succ])
      refine wpAnyH_ready (rs := [18]) (by kernel_rfl) (by simp) ?_
      refine AllReadyH.cons (o := { dst := some 34, op := Op.call { callee := Callee.value (Operand.func 14), args := #[Operand.tmp 25, Operand.tmp 33], argTypes := #[22, 22] }, type := 4, pos := "law.go:151", after := #[{ on := 9, ground := Ground.data }, { on := 17, ground := Ground.data }, { on := 17, ground := Ground.chain }, { on := 5, ground := Ground.guard }], guard := some (5, true) }) rfl (fun K hK => ?_) AllReadyH.nil
      refine want (by kernel_rfl) ?_
      refine opCall (ent_Same _ _ _ _ _ _ _ _ _ _) ?_
      refine (SameK S9.out S17.out (by have := H9.out.2.2; omega) (canon_eq H9.out.1 H17.out.1 H9.out.2.1 H17.out.2.1 (fun d => HX.out d))).mono ?_
      rintro e y18 ⟨rfl, hb⟩
      clear S9 S17
      clear H9 H17
      replace hk := kc hb hk
      clear hb hHeld
      refine hK.out _ _ (KP.out _ hk) (fun hHeld => ?_)
      clear hK K
      try (conv => arg 8; simp only [Act.put, List.setIfInBounds_toArray, List.set_cons_zero, List.set_cons_succ])
      exact J1.out _ _ _ _ (by kernel_rfl) (by kernel_rfl) ⟨⟨_, _, _, _, _, _, _, _, _, _, _, _, _, _, _, _, _, _, _, _, _, _, _, _, _, _, _, _, _, _, _, _, _, _, _, _, _, _, _, _, _, _, _, _, _, _, _, _, _, _, _, _, _, _, _, _, rfl⟩, hk⟩
    refine AllReadyH.cons (o := { dst := some 27, op := Op.buildSlice 22 1 #[(0, Operand.tmp 26)], type := 22, pos := "law.go:151", after := #[{ on := 10, ground := Ground.data }, { on := 5, ground := Ground.guard }], guard := some (5, true) }) rfl (fun K hK => ?_) AllReadyH.nil
    refine want (by kernel_rfl) ?_
    refine opOne 27 (.tmp 26) (a) (b) rfl rfl rfl ?_
    intro g11 y11 F11 hb
    replace F14 := Lib.hid (SpansIn.below F14.out hb (Nat.le_refl _))
    replace F7 := Lib.hid (SpansIn.below F7.out hb (Nat.le_refl _))
    replace hk := kc hb hk
    clear hb hHeld
    refine hK.out _ _ (KP.out _ hk) (fun hHeld => ?_)
    clear hK K
    try (conv => arg 8; simp only [Act.put, List.setIfInBounds_toArray, List.set_cons_zero, List.set_cons_succ])
    refine wpAnyH_ready (rs := [8]) (by kernel_rfl) (by simp) ?_
    refine AllReadyH.cons (o := { dst := some 24, op := Op.call { callee := Callee.value (Operand.func 12), args := #[Operand.tmp 23], argTypes := #[22] }, type := 26, pos := "law.go:151", after := #[{ on := 7, ground := Ground.data }, { on := 5, ground := Ground.chain }, { on := 5, ground := Ground.guard }], guard := some (5, true) }) rfl (fun K hK => ?_) AllReadyH.nil
    refine want (by kernel_rfl) ?_
    refine opCall (ent_Of _ _ _ _ _ _ _ _ _) ?_
    refine (OfOne _ _ (X0) (Y0) _ H64X.out.1 H64X.out.2 F7.out).mono ?_
    rintro e y8 ⟨v8, rfl, hs, hb, -⟩
    clear F7
    replace F14 := Lib.hid (SpansIn.below F14.out hb (Nat.le_refl _))
    replace F11 := Lib.hid (SpansIn.below F11.out hb (Nat.le_refl _))
    replace hk := kc hb hk
    clear hb hHeld
    have I8 := Lib.hid hs
    clear hs
    refine hK.out _ _ (KP.out _ hk) (fun hHeld => ?_)
    clear hK K
    try (conv => arg 8; simp only [Act.put, List.setIfInBounds_toArray, List.set_cons_zero, List.set_cons_succ])
    refine wpAnyH_ready (rs := [9]) (by kernel_rfl) (by simp) ?_
    refine AllReadyH.cons (o := { dst := some 25, op := Op.call { callee := Callee.value (Operand.func 15), args := #[Operand.tmp 24], argTypes := #[26] }, type := 22, pos := "law.go:151", after := #[{ on := 8, ground := Ground.data }, { on := 8, ground := Ground.chain }, { on := 5, ground := Ground.guard }], guard := some (5, true) }) rfl (fun K hK => ?_) AllReadyH.nil
    refine want (by kernel_rfl) ?_
    refine opCall (ent_All _ _ _ _ _ _ _ _ _) ?_
    refine (AllK I8.out (by omega)).mono ?_
    rintro e y9 ⟨K9, q9, c9, rfl, kx, mx, -, lx, sx, hb⟩
    clear I8
    replace F14 := Lib.hid (SpansIn.below F14.out hb (Nat.le_refl _))
    replace F11 := Lib.hid (SpansIn.below F11.out hb (Nat.le_refl _))
    replace hk := kc hb hk
    clear hb hHeld
    have H9 : Hid (Canon K9 ∧ (∀ d, Mem K9 d ↔ hasB [(X0, Y0)] d = true) ∧ K9.length ≤ 2) := Lib.hid ⟨kx, mx, lx⟩
    have S9 := Lib.hid sx
    clear kx mx lx sx
    refine hK.out _ _ (KP.out _ hk) (fun hHeld => ?_)
    clear hK K
    try (conv => arg 8; simp only [Act.put, List.setIfInBounds_toArray, List.set_cons_zero, List.set_cons_succ])
    refine wpAnyH_ready (rs := [12]) (by kernel_rfl) (by simp) ?_
    refine AllReadyH.cons (o := { dst := some 28, op := Op.call { callee := Callee.value (Operand.func 12), args := #[Operand.tmp 27], argTypes := #[22] }, type := 26, pos := "law.go:151", after := #[{ on := 11, ground := Ground.data }, { on := 9, ground := Ground.chain }, { on := 5, ground := Ground.guard }], guard := some (5, true) }) rfl (fun K hK => ?_) AllReadyH.nil
    refine want (by kernel_rfl) ?_
    refine opCall (ent_Of _ _ _ _ _ _ _ _ _) ?_
    refine (OfOne _ _ (a) (b) _ H64A.out.1 H64A.out.2 F11.out).mono ?_
    rintro e y12 ⟨v12, rfl, hs, hb, -⟩
    clear F11
    replace F14 := Lib.hid (SpansIn.below F14.out hb (Nat.le_refl _))
    replace S9 := Lib.hid (SpansIn.below S9.out hb (Nat.le_refl _))
    replace hk := kc hb hk
    clear hb hHeld
    have I12 := Lib.hid hs
    clear hs
    refine hK.out _ _ (KP.out _ hk) (fun hHeld => ?_)
    clear hK K
    try (conv => arg 8; simp only [Act.put, List.setIfInBounds_toArray, List.set_cons_zero, List.set_cons_succ])
    refine wpAnyH_ready (rs := [15]) (by kernel_rfl) (by simp) ?_
    refine AllReadyH.cons (o := { dst := some 31, op := Op.call { callee := Callee.value (Operand.func 12), args := #[Operand.tmp 30], argTypes := #[22] }, type := 26, pos := "law.go:151", after := #[{ on := 14, ground := Ground.data }, { on := 12, ground := Ground.chain }, { on := 5, ground := Ground.guard }], guard := some (5, true) }) rfl (fun K hK => ?_) AllReadyH.nil
    refine want (by kernel_rfl) ?_
    refine opCall (ent_Of _ _ _ _ _ _ _ _ _) ?_
    refine (OfOne _ _ (a') (b') _ H64B.out.1 H64B.out.2 F14.out).mono ?_
    rintro e y15 ⟨v15, rfl, hs, hb, -⟩
    clear F14
    replace S9 := Lib.hid (SpansIn.below S9.out hb (Nat.le_refl _))
    replace I12 := Lib.hid (IsSet.below I12.out hb (Nat.le_refl _))
    replace hk := kc hb hk
    clear hb hHeld
    have I15 := Lib.hid hs
    clear hs
    refine hK.out _ _ (KP.out _ hk) (fun hHeld => ?_)
    clear hK K
    try (conv => arg 8; simp only [Act.put, List.setIfInBounds_toArray, List.set_cons_zero, List.set_cons_succ])
    refine wpAnyH_ready (rs := [16]) (by kernel_rfl) (by simp) ?_
    refine AllReadyH.cons (o := { dst := some 32, op := Op.call { callee := Callee.value (Operand.func 18), args := #[Operand.tmp 28, Operand.tmp 31], argTypes := #[26, 26] }, type := 26, pos := "law.go:151", after := #[{ on := 12, ground := Ground.data }, { on := 15, ground := Ground.data }, { on := 15, ground := Ground.chain }, { on := 5, ground := Ground.guard }], guard := some (5, true) }) rfl (fun K hK => ?_) AllReadyH.nil
    refine want (by kernel_rfl) ?_
    refine opCall (ent_Meet _ _ _ _ _ _ _ _ _ _) ?_
    refine (MeetK I12.out I15.out (by omega) (by omega)).mono ?_
    rintro e y16 ⟨v16, rfl, hs, hb, -⟩
    clear I12 I15
    replace S9 := Lib.hid (SpansIn.below S9.out hb (Nat.le_refl _))
    replace hk := kc hb hk
    clear hb hHeld
    have I16 := Lib.hid hs
    clear hs
    refine hK.out _ _ (KP.out _ hk) (fun hHeld => ?_)
    clear hK K
    try (conv => arg 8; simp only [Act.put, List.setIfInBounds_toArray, List.set_cons_zero, List.set_cons_succ])
    refine wpAnyH_ready (rs := [17]) (by kernel_rfl) (by simp) ?_
    refine AllReadyH.cons (o := { dst := some 33, op := Op.call { callee := Callee.value (Operand.func 15), args := #[Operand.tmp 32], argTypes := #[26] }, type := 22, pos := "law.go:151", after := #[{ on := 16, ground := Ground.data }, { on := 16, ground := Ground.chain }, { on := 5, ground := Ground.guard }], guard := some (5, true) }) rfl (fun K hK => ?_) AllReadyH.nil
    refine want (by kernel_rfl) ?_
    refine opCall (ent_All _ _ _ _ _ _ _ _ _) ?_
    refine (AllK I16.out (by omega)).mono ?_
    rintro e y17 ⟨K17, q17, c17, rfl, kx, mx, -, lx, sx, hb⟩
    clear I16
    replace S9 := Lib.hid (SpansIn.below S9.out hb (Nat.le_refl _))
    replace hk := kc hb hk
    clear hb hHeld
    have H17 : Hid (Canon K17 ∧ (∀ d, Mem K17 d ↔ (hasB [(a, b)] d && hasB [(a', b')] d) = true) ∧ K17.length ≤ (2 * 2 + 2 * 2)) := Lib.hid ⟨kx, mx, lx⟩
    have S17 := Lib.hid sx
    clear kx mx lx sx
    refine hK.out _ _ (KP.out _ hk) (fun hHeld => ?_)
    clear hK K
    try (conv => arg 8; simp only [Act.put, List.setIfInBounds_toArray, List.set_cons_zero, List.set_cons_succ])
    refine wpAnyH_ready (rs := [18]) (by kernel_rfl) (by simp) ?_
    refine AllReadyH.cons (o := { dst := some 34, op := Op.call { callee := Callee.value (Operand.func 14), args := #[Operand.tmp 25, Operand.tmp 33], argTypes := #[22, 22] }, type := 4, pos := "law.go:151", after := #[{ on := 9, ground := Ground.data }, { on := 17, ground := Ground.data }, { on := 17, ground := Ground.chain }, { on := 5, ground := Ground.guard }], guard := some (5, true) }) rfl (fun K hK => ?_) AllReadyH.nil
    refine want (by kernel_rfl) ?_
    refine opCall (ent_Same _ _ _ _ _ _ _ _ _ _) ?_
    refine (SameK S9.out S17.out (by have := H9.out.2.2; omega) (canon_eq H9.out.1 H17.out.1 H9.out.2.1 H17.out.2.1 (fun d => HX.out d))).mono ?_
    rintro e y18 ⟨rfl, hb⟩
    clear S9 S17
    clear H9 H17
    replace hk := kc hb hk
    clear hb hHeld
    refine hK.out _ _ (KP.out _ hk) (fun hHeld => ?_)
    clear hK K
    try (conv => arg 8; simp only [Act.put, List.setIfInBounds_toArray, List.set_cons_zero, List.set_cons_succ])
    exact J1.out _ _ _ _ (by kernel_rfl) (by kernel_rfl) ⟨⟨_, _, _, _, _, _, _, _, _, _, _, _, _, _, _, _, _, _, _, _, _, _, _, _, _, _, _, _, _, _, _, _, _, _, _, _, _, _, _, _, _, _, _, _, _, _, _, _, _, _, _, _, _, _, _, _, rfl⟩, hk⟩
  refine AllReadyH.cons (o := { dst := some 27, op := Op.buildSlice 22 1 #[(0, Operand.tmp 26)], type := 22, pos := "law.go:151", after := #[{ on := 10, ground := Ground.data }, { on := 5, ground := Ground.guard }], guard := some (5, true) }) rfl (fun K hK => ?_) AllReadyH.nil
  refine want (by kernel_rfl) ?_
  refine opOne 27 (.tmp 26) (a) (b) rfl rfl rfl ?_
  intro g11 y11 F11 hb
  replace F14 := Lib.hid (SpansIn.below F14.out hb (Nat.le_refl _))
  replace hk := kc hb hk
  clear hb hHeld
  refine hK.out _ _ (KP.out _ hk) (fun hHeld => ?_)
  clear hK K
  try (conv => arg 8; simp only [Act.put, List.setIfInBounds_toArray, List.set_cons_zero, List.set_cons_succ])
  refine wpAnyH_ready (rs := [7]) (by kernel_rfl) (by simp) ?_
  refine AllReadyH.cons (o := { dst := some 23, op := Op.buildSlice 22 1 #[(0, Operand.tmp 22)], type := 22, pos := "law.go:151", after := #[{ on := 6, ground := Ground.data }, { on := 5, ground := Ground.guard }], guard := some (5, true) }) rfl (fun K hK => ?_) AllReadyH.nil
  refine want (by kernel_rfl) ?_
  refine opOne 23 (.tmp 22) (X0) (Y0) rfl rfl rfl ?_
  intro g7 y7 F7 hb
  replace F14 := Lib.hid (SpansIn.below F14.out hb (Nat.le_refl _))
  replace F11 := Lib.hid (SpansIn.below F11.out hb (Nat.le_refl _))
  replace hk := kc hb hk
  clear hb hHeld
  refine hK.out _ _ (KP.out _ hk) (fun hHeld => ?_)
  clear hK K
  try (conv => arg 8; simp only [Act.put, List.setIfInBounds_toArray, List.set_cons_zero, List.set_cons_succ])
  refine wpAnyH_ready (rs := [8]) (by kernel_rfl) (by simp) ?_
  refine AllReadyH.cons (o := { dst := some 24, op := Op.call { callee := Callee.value (Operand.func 12), args := #[Operand.tmp 23], argTypes := #[22] }, type := 26, pos := "law.go:151", after := #[{ on := 7, ground := Ground.data }, { on := 5, ground := Ground.chain }, { on := 5, ground := Ground.guard }], guard := some (5, true) }) rfl (fun K hK => ?_) AllReadyH.nil
  refine want (by kernel_rfl) ?_
  refine opCall (ent_Of _ _ _ _ _ _ _ _ _) ?_
  refine (OfOne _ _ (X0) (Y0) _ H64X.out.1 H64X.out.2 F7.out).mono ?_
  rintro e y8 ⟨v8, rfl, hs, hb, -⟩
  clear F7
  replace F14 := Lib.hid (SpansIn.below F14.out hb (Nat.le_refl _))
  replace F11 := Lib.hid (SpansIn.below F11.out hb (Nat.le_refl _))
  replace hk := kc hb hk
  clear hb hHeld
  have I8 := Lib.hid hs
  clear hs
  refine hK.out _ _ (KP.out _ hk) (fun hHeld => ?_)
  clear hK K
  try (conv => arg 8; simp only [Act.put, List.setIfInBounds_toArray, List.set_cons_zero, List.set_cons_succ])
  refine wpAnyH_ready (rs := [9]) (by kernel_rfl) (by simp) ?_
  refine AllReadyH.cons (o := { dst := some 25, op := Op.call { callee := Callee.value (Operand.func 15), args := #[Operand.tmp 24], argTypes := #[26] }, type := 22, pos := "law.go:151", after := #[{ on := 8, ground := Ground.data }, { on := 8, ground := Ground.chain }, { on := 5, ground := Ground.guard }], guard := some (5, true) }) rfl (fun K hK => ?_) AllReadyH.nil
  refine want (by kernel_rfl) ?_
  refine opCall (ent_All _ _ _ _ _ _ _ _ _) ?_
  refine (AllK I8.out (by omega)).mono ?_
  rintro e y9 ⟨K9, q9, c9, rfl, kx, mx, -, lx, sx, hb⟩
  clear I8
  replace F14 := Lib.hid (SpansIn.below F14.out hb (Nat.le_refl _))
  replace F11 := Lib.hid (SpansIn.below F11.out hb (Nat.le_refl _))
  replace hk := kc hb hk
  clear hb hHeld
  have H9 : Hid (Canon K9 ∧ (∀ d, Mem K9 d ↔ hasB [(X0, Y0)] d = true) ∧ K9.length ≤ 2) := Lib.hid ⟨kx, mx, lx⟩
  have S9 := Lib.hid sx
  clear kx mx lx sx
  refine hK.out _ _ (KP.out _ hk) (fun hHeld => ?_)
  clear hK K
  try (conv => arg 8; simp only [Act.put, List.setIfInBounds_toArray, List.set_cons_zero, List.set_cons_succ])
  refine wpAnyH_ready (rs := [12]) (by kernel_rfl) (by simp) ?_
  refine AllReadyH.cons (o := { dst := some 28, op := Op.call { callee := Callee.value (Operand.func 12), args := #[Operand.tmp 27], argTypes := #[22] }, type := 26, pos := "law.go:151", after := #[{ on := 11, ground := Ground.data }, { on := 9, ground := Ground.chain }, { on := 5, ground := Ground.guard }], guard := some (5, true) }) rfl (fun K hK => ?_) AllReadyH.nil
  refine want (by kernel_rfl) ?_
  refine opCall (ent_Of _ _ _ _ _ _ _ _ _) ?_
  refine (OfOne _ _ (a) (b) _ H64A.out.1 H64A.out.2 F11.out).mono ?_
  rintro e y12 ⟨v12, rfl, hs, hb, -⟩
  clear F11
  replace F14 := Lib.hid (SpansIn.below F14.out hb (Nat.le_refl _))
  replace S9 := Lib.hid (SpansIn.below S9.out hb (Nat.le_refl _))
  replace hk := kc hb hk
  clear hb hHeld
  have I12 := Lib.hid hs
  clear hs
  refine hK.out _ _ (KP.out _ hk) (fun hHeld => ?_)
  clear hK K
  try (conv => arg 8; simp only [Act.put, List.setIfInBounds_toArray, List.set_cons_zero, List.set_cons_succ])
  refine wpAnyH_ready (rs := [15]) (by kernel_rfl) (by simp) ?_
  refine AllReadyH.cons (o := { dst := some 31, op := Op.call { callee := Callee.value (Operand.func 12), args := #[Operand.tmp 30], argTypes := #[22] }, type := 26, pos := "law.go:151", after := #[{ on := 14, ground := Ground.data }, { on := 12, ground := Ground.chain }, { on := 5, ground := Ground.guard }], guard := some (5, true) }) rfl (fun K hK => ?_) AllReadyH.nil
  refine want (by kernel_rfl) ?_
  refine opCall (ent_Of _ _ _ _ _ _ _ _ _) ?_
  refine (OfOne _ _ (a') (b') _ H64B.out.1 H64B.out.2 F14.out).mono ?_
  rintro e y15 ⟨v15, rfl, hs, hb, -⟩
  clear F14
  replace S9 := Lib.hid (SpansIn.below S9.out hb (Nat.le_refl _))
  replace I12 := Lib.hid (IsSet.below I12.out hb (Nat.le_refl _))
  replace hk := kc hb hk
  clear hb hHeld
  have I15 := Lib.hid hs
  clear hs
  refine hK.out _ _ (KP.out _ hk) (fun hHeld => ?_)
  clear hK K
  try (conv => arg 8; simp only [Act.put, List.setIfInBounds_toArray, List.set_cons_zero, List.set_cons_succ])
  refine wpAnyH_ready (rs := [16]) (by kernel_rfl) (by simp) ?_
  refine AllReadyH.cons (o := { dst := some 32, op := Op.call { callee := Callee.value (Operand.func 18), args := #[Operand.tmp 28, Operand.tmp 31], argTypes := #[26, 26] }, type := 26, pos := "law.go:151", after := #[{ on := 12, ground := Ground.data }, { on := 15, ground := Ground.data }, { on := 15, ground := Ground.chain }, { on := 5, ground := Ground.guard }], guard := some (5, true) }) rfl (fun K hK => ?_) AllReadyH.nil
  refine want (by kernel_rfl) ?_
  refine opCall (ent_Meet _ _ _ _ _ _ _ _ _ _) ?_
  refine (MeetK I12.out I15.out (by omega) (by omega)).mono ?_
  rintro e y16 ⟨v16, rfl, hs, hb, -⟩
  clear I12 I15
  replace S9 := Lib.hid (SpansIn.below S9.out hb (Nat.le_refl _))
  replace hk := kc hb hk
  clear hb hHeld
  have I16 := Lib.hid hs
  clear hs
  refine hK.out _ _ (KP.out _ hk) (fun hHeld => ?_)
  clear hK K
  try (conv => arg 8; simp only [Act.put, List.setIfInBounds_toArray, List.set_cons_zero, List.set_cons_succ])
  refine wpAnyH_ready (rs := [17]) (by kernel_rfl) (by simp) ?_
  refine AllReadyH.cons (o := { dst := some 33, op := Op.call { callee := Callee.value (Operand.func 15), args := #[Operand.tmp 32], argTypes := #[26] }, type := 22, pos := "law.go:151", after := #[{ on := 16, ground := Ground.data }, { on := 16, ground := Ground.chain }, { on := 5, ground := Ground.guard }], guard := some (5, true) }) rfl (fun K hK => ?_) AllReadyH.nil
  refine want (by kernel_rfl) ?_
  refine opCall (ent_All _ _ _ _ _ _ _ _ _) ?_
  refine (AllK I16.out (by omega)).mono ?_
  rintro e y17 ⟨K17, q17, c17, rfl, kx, mx, -, lx, sx, hb⟩
  clear I16
  replace S9 := Lib.hid (SpansIn.below S9.out hb (Nat.le_refl _))
  replace hk := kc hb hk
  clear hb hHeld
  have H17 : Hid (Canon K17 ∧ (∀ d, Mem K17 d ↔ (hasB [(a, b)] d && hasB [(a', b')] d) = true) ∧ K17.length ≤ (2 * 2 + 2 * 2)) := Lib.hid ⟨kx, mx, lx⟩
  have S17 := Lib.hid sx
  clear kx mx lx sx
  refine hK.out _ _ (KP.out _ hk) (fun hHeld => ?_)
  clear hK K
  try (conv => arg 8; simp only [Act.put, List.setIfInBounds_toArray, List.set_cons_zero, List.set_cons_succ])
  refine wpAnyH_ready (rs := [18]) (by kernel_rfl) (by simp) ?_
  refine AllReadyH.cons (o := { dst := some 34, op := Op.call { callee := Callee.value (Operand.func 14), args := #[Operand.tmp 25, Operand.tmp 33], argTypes := #[22, 22] }, type := 4, pos := "law.go:151", after := #[{ on := 9, ground := Ground.data }, { on := 17, ground := Ground.data }, { on := 17, ground := Ground.chain }, { on := 5, ground := Ground.guard }], guard := some (5, true) }) rfl (fun K hK => ?_) AllReadyH.nil
  refine want (by kernel_rfl) ?_
  refine opCall (ent_Same _ _ _ _ _ _ _ _ _ _) ?_
  refine (SameK S9.out S17.out (by have := H9.out.2.2; omega) (canon_eq H9.out.1 H17.out.1 H9.out.2.1 H17.out.2.1 (fun d => HX.out d))).mono ?_
  rintro e y18 ⟨rfl, hb⟩
  clear S9 S17
  clear H9 H17
  replace hk := kc hb hk
  clear hb hHeld
  refine hK.out _ _ (KP.out _ hk) (fun hHeld => ?_)
  clear hK K
  try (conv => arg 8; simp only [Act.put, List.setIfInBounds_toArray, List.set_cons_zero, List.set_cons_succ])
  exact J1.out _ _ _ _ (by kernel_rfl) (by kernel_rfl) ⟨⟨_, _, _, _, _, _, _, _, _, _, _, _, _, _, _, _, _, _, _, _, _, _, _, _, _, _, _, _, _, _, _, _, _, _, _, _, _, _, _, _, _, _, _, _, _, _, _, _, _, _, _, _, _, _, _, _, rfl⟩, hk⟩

end Go.Proofs.Ytefcadngdcgpiaa
