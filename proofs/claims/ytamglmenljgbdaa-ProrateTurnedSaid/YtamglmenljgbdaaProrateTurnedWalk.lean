/-
  What is proved: the walk of the statement ProrateTurned: the call returns true. Conditions: what came in is as the frame says.
-/
import Derived.Test.YtamglmenljgbdaaPrH
import Derived.Test.YtamglmenljgbdaaPrK
import Derived.Test.YtamglmenljgbdaaPrMe
import Derived.Test.YtamglmenljgbdaaFrameR
namespace Go.Proofs.Ytamglmenljgbdaa
open Go Go.RowKit Go.Proofs
set_option linter.unusedVariables false
set_option linter.unusedSimpArgs false

theorem one4 (x y z u : Int) : ∀ v ∈ [Value.int .i64 x, .int .i64 y, .int .i64 z, .int .i64 u], v.oneCell' = true := by
  intro v hv
  simp at hv
  rcases hv with rfl | rfl | rfl | rfl <;> rfl
set_option maxHeartbeats 8000000 in
set_option maxRecDepth 100000 in
theorem walkProrateTurned (py i n a b pd : Int) (pl : Option Addr) (len cap : Nat) (L : List Pc) (x : Pc) (w : World) (hp : in64 py ∧ in64 i ∧ in64 n ∧ in64 a ∧ in64 b ∧ in64 pd) (hl : PcsArg w pl len cap L) (hx : Pc64 x) :
    Calls Try.prog 8 #[.agg #[.int .i64 py, .int .i64 i, .int .i64 n, .int .i64 a, .int .i64 b, .int .i64 pd], .slice pl len cap, .agg #[.int .i64 x.1.1, .int .i64 x.1.2, .int .i64 x.2.1, .int .i64 x.2.2]] w fun e w' => e = .returned (.bool true) ∧ Below w.heap.size w w' := by
  obtain ⟨-, hi, -, ha, hb, -⟩ := hp
  obtain ⟨hln, hin, h64, hmx, -, -, hnil⟩ := hl
  have hl0 := hin
  unfold maxLen at hmx
  obtain ⟨W2, hW2⟩ : ∃ W2, W2 = (w.alloc (.cells #[.int .i64 py, .int .i64 i, .int .i64 n, .int .i64 a, .int .i64 b, .int .i64 pd] 26)).alloc (.cells #[.int .i64 x.1.1, .int .i64 x.1.2, .int .i64 x.2.1, .int .i64 x.2.2] 50) := ⟨_, rfl⟩
  have hz1 : (w.alloc (.cells #[.int .i64 py, .int .i64 i, .int .i64 n, .int .i64 a, .int .i64 b, .int .i64 pd] 26)).heap.size = w.heap.size + 1 := by simp
  have hk0 : Below w.heap.size w W2 := by rw [hW2]; exact ((Below.refl w.heap.size w).alloc (Nat.le_refl _) _).alloc (by simp) _
  have HP0 := Lib.hid (show P6 W2 w.heap.size py i n a b pd by
    rw [hW2]
    have h : P6 (w.alloc (.cells #[.int .i64 py, .int .i64 i, .int .i64 n, .int .i64 a, .int .i64 b, .int .i64 pd] 26)) w.heap.size py i n a b pd := by unfold P6; refine ⟨?_, ?_, ?_, ?_, ?_, ?_⟩ <;> (rw [World.cell?_alloc_new]; rfl)
    exact h.kp ((Below.refl _ _).alloc (Nat.le_refl _) _))
  have HX0 := Lib.hid (show P4 W2 (w.heap.size + 1) x.1.1 x.1.2 x.2.1 x.2.2 by
    rw [hW2, ← hz1]; unfold P4; refine ⟨?_, ?_, ?_, ?_⟩ <;> (rw [World.cell?_alloc_new]; rfl))
  have HF0 := Lib.hid (show W2.frozen? ⟨w.heap.size + 1, 3, none⟩ = false by rw [hW2, ← hz1]; exact new_frozen _ _ _ _)
  have HI0 := Lib.hid (hin.below hk0 (Nat.le_refl _))
  have HLn := Lib.hid hln
  have H64 := Lib.hid h64
  have HNil := Lib.hid hnil
  have hz2 := hk0.size
  clear hln hin h64 hnil hz1
  by_cases hbig : 20 < len
  · have hi1 : (20 : Int) < (len : Int) := by omega
    go_enter Try.func8, Try.ntmps8
    go_wp2_with fail
    rw [← hW2]
    refine (awake_any _).mono ?_
    rintro e w1 ⟨rfl, hb1⟩
    go_wp2
    go_ret
    exact ⟨rfl, hk0.trans (hb1.mono hk0.size)⟩
  have hi1 : ¬ (20 : Int) < (len : Int) := by omega
  have hlen20 : len ≤ 20 := by omega
  clear hbig
  go_enter Try.func8, Try.ntmps8
  go_wp2_with fail
  rw [← hW2]
  clear hW2
  refine (awake_any _).mono ?_
  rintro e w1 ⟨rfl, hb1⟩
  have hk1 := hk0.trans (hb1.mono hk0.size)
  have HP1 := Lib.hid (HP0.out.kp hb1)
  have HX1 := Lib.hid (HX0.out.kp hb1)
  have HF1 := Lib.hid ((hb1.frozen (p := ⟨w.heap.size + 1, 3, none⟩) (World.block_lt_of_cell? _ _ HX0.out.2.2.2)).trans HF0.out)
  have HI1 := Lib.hid (HI0.out.below hb1 (Nat.le_refl _))
  have O0 : Hid (w1.ownsRow w1.heap.size 50 4 (.slice none 0 0) 0 (pcC ((L.drop len).reverse))) := Lib.hid (by rw [List.drop_eq_nil_of_le (by rw [HLn.out]; exact Nat.le_refl _)]; exact ⟨rfl, .inl ⟨rfl, rfl⟩⟩)
  have S0 : Hid (∀ q ∈ L.drop len, smallP q) := Lib.hid (by rw [List.drop_eq_nil_of_le (by rw [HLn.out]; exact Nat.le_refl _)]; intro q hq; cases hq)
  go_wp2
  go_loopw [7, 8] (fun lv iv wr => ∃ (k : Nat) (z : Int), k ≤ len ∧ z = (k : Int) - 1 ∧ iv = .int .i64 z ∧ Hid (wr.ownsRow w1.heap.size 50 4 lv (len - k) (pcC ((L.drop k).reverse))) ∧ Hid (∀ q ∈ L.drop k, smallP q) ∧ Below w1.heap.size w1 wr) (fun _ iv _ => (RowKit.intOf iv + 1).toNat)
  case atStart => exact ⟨len, _, by omega, rfl, rfl, by simpa using O0, S0, Below.refl _ _⟩
  case round =>
    obtain ⟨k, z, hk, hz, rfl, HO, HS, hbr⟩ := hrel
    by_cases hk0' : k = 0
    · subst hk0'
      obtain rfl : z = -1 := by omega
      clear hz
      rw [List.drop_zero] at HS HO
      rw [Nat.sub_zero] at HO
      obtain ⟨q, c', hv'⟩ := own_slice HO.out
      have hO := HO.out
      rw [hv'] at hO
      have hpc := pcs_own hO (by rw [List.length_reverse]; exact HLn.out)
      have hSa := Salary_any py pd a b i n pl len cap L wr ha hb hi HLn.out (by omega) (fun q hq => ⟨(H64.out q hq).1, (H64.out q hq).2.1⟩) (HI1.out.below hbr (Nat.le_refl _))
      have HSb := Lib.hid (fun W h => Salary_any py pd a b i n q len c' L.reverse W ha hb hi (by rw [List.length_reverse]; exact HLn.out) (by omega) (fun q hq => ⟨(H64.out q (List.mem_reverse.1 hq)).1, (H64.out q (List.mem_reverse.1 hq)).2.1⟩) h)
      obtain ⟨hr1, hr2⟩ := sal_rev (a := a) (b := b) (i := i) (n := n) (L := L) (by rw [HLn.out]; exact hlen20) HS.out
      have HMr := Lib.hid (fun (x1 : Sp.Sp) (Y : Int) h => sal_more (a := a) (b := b) (i := i) (n := n) (L := L) (by rw [HLn.out]; exact hlen20) x1 Y h)
      have HSa := Lib.hid hSa
      have HPc := Lib.hid hpc
      subst hv'
      clear hSa hpc hO HO HS O0 S0
      rw [← hr2] at HSb
      generalize (salVE a b i n L).1 = V1 at *
      generalize (salVE a b i n L).2 = E1 at *
      generalize (salVE a b i n L.reverse).2 = E2 at *
      have hVV : (V1 != V1) = false := by simp
      have hEE : ((E1 == 0) = true ∧ (E2 == 0) = true) ∨ ((E1 == 0) = false ∧ (E2 == 0) = false) := by
        by_cases h : E1 = 0
        · exact .inl ⟨by simpa using h, by simpa using hr1.1 h⟩
        · exact .inr ⟨by simpa using h, by simpa using fun g => h (hr1.2 g)⟩
      have HEE := Lib.hid hEE
      obtain ⟨f0, f1, f2, f3, f4, f5⟩ := HP1.out.kp hbr
      clear hEE hr1 hr2
      go_wp2_with fail
      refine HSa.out.mono ?_
      rintro e w2 ⟨rfl, hb2⟩
      have hbr2 := hbr.trans (hb2.mono hbr.size)
      clear f0 f1 f2 f3 f4 f5
      obtain ⟨f0, f1, f2, f3, f4, f5⟩ := HP1.out.kp hbr2
      go_wp2_with fail
      refine (HSb.out _ (HPc.out.below hb2 (Nat.le_refl _))).mono ?_
      rintro e w3 ⟨rfl, hb3⟩
      have hbr3 := hbr2.trans (hb3.mono hbr2.size)
      clear f0 f1 f2 f3 f4 f5
      obtain ⟨x0, x1, x2, x3⟩ := HX1.out.kp hbr3
      have hfz := (hbr3.frozen (p := ⟨w.heap.size + 1, 3, none⟩) (World.block_lt_of_cell? _ _ HX1.out.2.2.2)).trans HF1.out
      have h3 : w.heap.size + 1 < w1.heap.size := World.block_lt_of_cell? w1 ⟨w.heap.size + 1, 3, none⟩ HX1.out.2.2.2
      obtain ⟨W4, hW4⟩ : ∃ W4, W4 = w3.setCell ⟨w.heap.size + 1, 3, none⟩ (.int .i64 0) := ⟨_, rfl⟩
      have hP6 := HP1.out.kp hbr3
      have hoth : ∀ {p : Addr} {v : Value}, w3.cell? p = some v → p ≠ ⟨w.heap.size + 1, 3, none⟩ → W4.cell? p = some v := fun {p v} h hne => by rw [hW4]; exact (World.cell?_setCell_other _ _ _ _ hne.symm).trans h
      have hP4 : P4 W4 (w.heap.size + 1) x.1.1 x.1.2 x.2.1 0 := ⟨hoth x0 (by simp), hoth x1 (by simp), hoth x2 (by simp), by rw [hW4]; exact World.cell?_setCell_same _ _ _ x3⟩
      have hP64 : P6 W4 w.heap.size py i n a b pd := by
        obtain ⟨f0, f1, f2, f3, f4, f5⟩ := hP6
        exact ⟨hoth f0 (by simp), hoth f1 (by simp), hoth f2 (by simp), hoth f3 (by simp), hoth f4 (by simp), hoth f5 (by simp)⟩
      have hk4 : Below w.heap.size w W4 := by
        have hw3 := hk1.trans (hbr3.mono hk1.size)
        rw [hW4]; exact hw3.setCell (p := ⟨w.heap.size + 1, 3, none⟩) (by show w.heap.size ≤ w.heap.size + 1; omega) _
      have HI4 := Lib.hid (show PcsIn W4 pl L from (hl0.below hk4 (Nat.le_refl _)))
      have HP4 := Lib.hid hP64
      have HX4 := Lib.hid hP4
      rcases HEE.out with ⟨e1, e2⟩ | ⟨e1, e2⟩
      all_goals
        have HSx := Lib.hid (fun q3 cr W h => Salary_any py pd a b i n q3 (len + 1) cr (L ++ [(x.1, x.2.1, 0)]) W ha hb hi (by rw [List.length_append, HLn.out]; rfl) (by omega) (fun q hq => by
          rcases List.mem_append.1 hq with hq | hq
          · exact ⟨(H64.out q hq).1, (H64.out q hq).2.1⟩
          · rw [List.mem_singleton.1 hq]; exact ⟨hx.1, hx.2.1⟩) h)
        have hm := HMr.out x.1 x.2.1
        generalize (salVE a b i n (L ++ [(x.1, x.2.1, 0)])).1 = V3 at *
        generalize (salVE a b i n (L ++ [(x.1, x.2.1, 0)])).2 = E3 at *
        have HD3 : Hid ((E3 != 0) = true ∨ ((E3 != 0) = false ∧ (V3 == V1) = true)) := Lib.hid (by
          by_cases h : E3 = 0
          · exact .inr ⟨by simp [h], by simpa using hm h⟩
          · exact .inl (by simpa using h))
        have HK4 := Lib.hid hk4
        have hKP : Hid (∀ w', Below W4.heap.size W4 w' → (w'.cell? ⟨w.heap.size, 0, none⟩ = some (.int .i64 py) ∧ w'.cell? ⟨w.heap.size, 1, none⟩ = some (.int .i64 i) ∧ w'.cell? ⟨w.heap.size, 2, none⟩ = some (.int .i64 n) ∧ w'.cell? ⟨w.heap.size, 3, none⟩ = some (.int .i64 a) ∧ w'.cell? ⟨w.heap.size, 4, none⟩ = some (.int .i64 b) ∧ w'.cell? ⟨w.heap.size, 5, none⟩ = some (.int .i64 pd) ∧ w'.cell? ⟨w.heap.size + 1, 0, none⟩ = some (.int .i64 x.1.1) ∧ w'.cell? ⟨w.heap.size + 1, 1, none⟩ = some (.int .i64 x.1.2) ∧ w'.cell? ⟨w.heap.size + 1, 2, none⟩ = some (.int .i64 x.2.1) ∧ w'.cell? ⟨w.heap.size + 1, 3, none⟩ = some (.int .i64 0)) ∧ Below W4.heap.size W4 w') := Lib.hid (fun w' h => by
          obtain ⟨f0, f1, f2, f3, f4, f5⟩ := HP4.out.kp h
          obtain ⟨g0, g1, g2, g3⟩ := HX4.out.kp h
          exact ⟨⟨f0, f1, f2, f3, f4, f5, g0, g1, g2, g3⟩, h⟩)
        clear hm HMr hP6 hoth hP4 hP64 hbr2 hbr3 hb2 hb3 hk4
        go_upto_region 17 with fail
        rw [← hW4]
        clear hW4 x0 x1 x2 x3 hfz
        refine wp_region_held_drew (S := fun w' => (w'.cell? ⟨w.heap.size, 0, none⟩ = some (.int .i64 py) ∧ w'.cell? ⟨w.heap.size, 1, none⟩ = some (.int .i64 i) ∧ w'.cell? ⟨w.heap.size, 2, none⟩ = some (.int .i64 n) ∧ w'.cell? ⟨w.heap.size, 3, none⟩ = some (.int .i64 a) ∧ w'.cell? ⟨w.heap.size, 4, none⟩ = some (.int .i64 b) ∧ w'.cell? ⟨w.heap.size, 5, none⟩ = some (.int .i64 pd) ∧ w'.cell? ⟨w.heap.size + 1, 0, none⟩ = some (.int .i64 x.1.1) ∧ w'.cell? ⟨w.heap.size + 1, 1, none⟩ = some (.int .i64 x.1.2) ∧ w'.cell? ⟨w.heap.size + 1, 2, none⟩ = some (.int .i64 x.2.1) ∧ w'.cell? ⟨w.heap.size + 1, 3, none⟩ = some (.int .i64 0)) ∧ Below W4.heap.size W4 w') (by kernel_rfl) (hKP.out _ (Below.refl _ _).drew) (fun hHeld => ?_)
        refine wpAnyH_take (i := 0) (oi := { dst := some 88, op := Op.load 26 (Operand.tmp 3), type := 26, pos := "law.go:128", after := #[], guard := none }) (v := ?_) rfl (by kernel_rfl) (by kernel_rfl) (by kernel_rfl) (fun _ _ _ h => h) (Or.inl ⟨by kernel_rfl, ?_⟩) (by assumption) ?_
        rotate_left 1
        · intro w' hSw
          (try dsimp only at hSw)
          obtain ⟨z0, z1, z2, z3, z4, z5, z6, z7, z8, z9⟩ := hSw.1
          clear hSw
          go_simp
          all_goals (with_reducible rfl)
        try (conv => arg 8; simp only [Act.put, List.setIfInBounds_toArray, List.set_cons_zero, List.set_cons_succ])
        refine wpAnyH_take (i := 2) (oi := { dst := some 90, op := Op.move (Operand.tmp 1), type := 28, pos := "law.go:128", after := #[], guard := none }) (v := ?_) rfl (by kernel_rfl) (by kernel_rfl) (by kernel_rfl) (fun _ _ _ h => h) (Or.inl ⟨by kernel_rfl, ?_⟩) (by assumption) ?_
        rotate_left 1
        · intro w' hSw
          (try dsimp only at hSw)
          obtain ⟨z0, z1, z2, z3, z4, z5, z6, z7, z8, z9⟩ := hSw.1
          clear hSw
          go_simp
          all_goals (with_reducible rfl)
        try (conv => arg 8; simp only [Act.put, List.setIfInBounds_toArray, List.set_cons_zero, List.set_cons_succ])
        refine wpAnyH_take (i := 4) (oi := { dst := some 92, op := Op.load 50 (Operand.tmp 5), type := 50, pos := "law.go:128", after := #[], guard := none }) (v := ?_) rfl (by kernel_rfl) (by kernel_rfl) (by kernel_rfl) (fun _ _ _ h => h) (Or.inl ⟨by kernel_rfl, ?_⟩) (by assumption) ?_
        rotate_left 1
        · intro w' hSw
          (try dsimp only at hSw)
          obtain ⟨z0, z1, z2, z3, z4, z5, z6, z7, z8, z9⟩ := hSw.1
          clear hSw
          go_simp
          all_goals (with_reducible rfl)
        try (conv => arg 8; simp only [Act.put, List.setIfInBounds_toArray, List.set_cons_zero, List.set_cons_succ])
        clear hHeld
        have hk : Below W4.heap.size W4 W4.drew := (Below.refl _ _).drew
        refine wpAnyH_ready (rs := [1,5]) (by kernel_rfl) (by simp) ?_
        refine AllReadyH.cons (o := { dst := some 89, op := Op.buildSlice 28 0 #[], type := 28, pos := "law.go:128", after := #[], guard := none }) rfl (fun K hK => ?_) ?_
        · as_aux_lemma =>
          refine want (by kernel_rfl) ?_
          refine op_bs0 89 rfl rfl W4.heap.size hk.size ?_
          intro v y0 hO' hv hb
          clear hv
          replace hk := kf_step' hb hk
          clear hb
          have hO := hO'
          clear hO'
          refine hK.out _ _ (hKP.out _ hk) (fun hHeld => ?_)
          clear hK K
          try (conv => arg 8; simp only [Act.put, List.setIfInBounds_toArray, List.set_cons_zero, List.set_cons_succ])
          clear hHeld
          refine wpAnyH_ready (rs := [3,5]) (by kernel_rfl) (by simp) ?_
          refine AllReadyH.cons (o := { dst := some 91, op := Op.call { callee := Callee.builtin Builtin.append, args := #[Operand.tmp 89, Operand.tmp 90], argTypes := #[28, 28] }, type := 28, pos := "law.go:128", after := #[{ on := 1, ground := Ground.data }, { on := 2, ground := Ground.data }], guard := none }) rfl (fun K hK => ?_) ?_
          · as_aux_lemma =>
            refine want (by kernel_rfl) ?_
            refine op_app (T := 28) (E := 50) (by kernel_rfl) infP 91 _ _ rfl rfl W4.heap.size v 0 [] rfl hO pl len cap L rfl HLn.out (HI4.out.below hk (Nat.le_refl _)) (by omega) hk.size ?_
            intro v2 y1 hO2 hgr hat
            replace hk := kf_grown hgr hk hO
            clear hgr hat hO
            rw [List.nil_append, Nat.zero_add] at hO2
            refine hK.out _ _ (hKP.out _ hk) (fun hHeld => ?_)
            clear hK K
            try (conv => arg 8; simp only [Act.put, List.setIfInBounds_toArray, List.set_cons_zero, List.set_cons_succ])
            clear hHeld
            refine wpAnyH_ready (rs := [5]) (by kernel_rfl) (by simp) ?_
            refine AllReadyH.cons (o := { dst := some 93, op := Op.buildSlice 28 1 #[(0, Operand.tmp 92)], type := 28, pos := "law.go:128", after := #[{ on := 4, ground := Ground.data }], guard := none }) rfl (fun K hK => ?_) AllReadyH.nil
            refine want (by kernel_rfl) ?_
            refine op_bs1 (E := 50) run_bsP 93 _ (x.1, x.2.1, 0) rfl rfl rfl ?_
            intro gt y2 hT' et hb
            have hne2 := own_lt hO2 (g := gt) (by omega)
            clear et
            replace hO2 := own_below hO2 hb
            replace hk := kf_step' hb hk
            clear hb
            have hT := hT'
            clear hT'
            refine hK.out _ _ (hKP.out _ hk) (fun hHeld => ?_)
            clear hK K
            try (conv => arg 8; simp only [Act.put, List.setIfInBounds_toArray, List.set_cons_zero, List.set_cons_succ])
            clear hHeld
            refine wpAnyH_ready (rs := [6]) (by kernel_rfl) (by simp) ?_
            refine AllReadyH.cons (o := { dst := some 94, op := Op.call { callee := Callee.builtin Builtin.append, args := #[Operand.tmp 91, Operand.tmp 93], argTypes := #[28, 28] }, type := 28, pos := "law.go:128", after := #[{ on := 3, ground := Ground.data }, { on := 5, ground := Ground.data }, { on := 3, ground := Ground.chain }], guard := none }) rfl (fun K hK => ?_) AllReadyH.nil
            refine want (by kernel_rfl) ?_
            refine op_app (T := 28) (E := 50) (by kernel_rfl) infP 94 _ _ rfl rfl W4.heap.size v2 len L rfl hO2 (some ⟨gt, 0, none⟩) 1 1 [(x.1, x.2.1, 0)] rfl rfl (OneP.pcs hT) (by omega) hk.size ?_
            intro v3 y3 hO3 hgr hat
            replace hk := kf_grown hgr hk hO2
            clear hgr hat hO2 hT hne2
            obtain ⟨q3, cr, rfl⟩ := own_slice hO3
            have hpc3 := pcs_own hO3 (by rw [List.length_append, HLn.out]; rfl)
            clear hO3
            refine hK.out _ _ (hKP.out _ hk) (fun hHeld => ?_)
            clear hK K
            try (conv => arg 8; simp only [Act.put, List.setIfInBounds_toArray, List.set_cons_zero, List.set_cons_succ])
            clear hHeld
            refine wpAnyH_ready (rs := [7]) (by kernel_rfl) (by simp) ?_
            refine AllReadyH.cons (o := { dst := some 95, op := Op.call { callee := Callee.value (Operand.func 14), args := #[Operand.tmp 88, Operand.tmp 94], argTypes := #[26, 28] }, type := 31, pos := "law.go:128", after := #[{ on := 0, ground := Ground.data }, { on := 6, ground := Ground.data }, { on := 6, ground := Ground.chain }], guard := none }) rfl (fun K hK => ?_) AllReadyH.nil
            refine want (by kernel_rfl) ?_
            refine opCall (ent_Salary ..) ?_
            refine (HSx.out q3 cr _ hpc3).mono ?_
            rintro e y4 ⟨rfl, hb⟩
            clear hpc3
            replace hk := kf_step' hb hk
            clear hb
            refine hK.out _ _ (hKP.out _ hk) (fun hHeld => ?_)
            clear hK K
            try (conv => arg 8; simp only [Act.put, List.setIfInBounds_toArray, List.set_cons_zero, List.set_cons_succ])
            refine wpAnyH_take (i := 8) (oi := { dst := some 87, op := Op.move (Operand.tmp 95), type := 31, pos := "law.go:128", after := #[{ on := 7, ground := Ground.data }], guard := none }) (v := ?_) rfl (by kernel_rfl) (by kernel_rfl) (by kernel_rfl) (fun _ _ _ h => h) (Or.inl ⟨by kernel_rfl, ?_⟩) (by assumption) ?_
            rotate_left 1
            · intro w' hSw
              (try dsimp only at hSw)
              obtain ⟨z0, z1, z2, z3, z4, z5, z6, z7, z8, z9⟩ := hSw.1
              clear hSw
              go_simp
              all_goals (with_reducible rfl)
            try (conv => arg 8; simp only [Act.put, List.setIfInBounds_toArray, List.set_cons_zero, List.set_cons_succ])
            refine wpAnyH_take (i := 9) (oi := { dst := some 96, op := Op.extract (Operand.tmp 87) 0, type := 27, pos := "law.go:128", after := #[{ on := 8, ground := Ground.data }], guard := none }) (v := ?_) rfl (by kernel_rfl) (by kernel_rfl) (by kernel_rfl) (fun _ _ _ h => h) (Or.inl ⟨by kernel_rfl, ?_⟩) (by assumption) ?_
            rotate_left 1
            · intro w' hSw
              (try dsimp only at hSw)
              obtain ⟨z0, z1, z2, z3, z4, z5, z6, z7, z8, z9⟩ := hSw.1
              clear hSw
              go_simp
              all_goals (with_reducible rfl)
            try (conv => arg 8; simp only [Act.put, List.setIfInBounds_toArray, List.set_cons_zero, List.set_cons_succ])
            refine wpAnyH_take (i := 10) (oi := { dst := some 97, op := Op.extract (Operand.tmp 87) 1, type := 30, pos := "law.go:128", after := #[{ on := 8, ground := Ground.data }, { on := 11, ground := Ground.gcOnly Departure.lateStores }], guard := none }) (v := ?_) rfl (by kernel_rfl) (by kernel_rfl) (by kernel_rfl) (fun _ _ _ h => h) (Or.inl ⟨by kernel_rfl, ?_⟩) (by assumption) ?_
            rotate_left 1
            · intro w' hSw
              (try dsimp only at hSw)
              obtain ⟨z0, z1, z2, z3, z4, z5, z6, z7, z8, z9⟩ := hSw.1
              clear hSw
              go_simp
              all_goals (with_reducible rfl)
            try (conv => arg 8; simp only [Act.put, List.setIfInBounds_toArray, List.set_cons_zero, List.set_cons_succ])
            refine wpAnyH_take (i := 11) (oi := { dst := some 13, op := Op.assign (Operand.tmp 96), type := 27, pos := "law.go:128", after := #[{ on := 9, ground := Ground.data }, { on := 7, ground := Ground.chain }, { on := 0, ground := Ground.phase }, { on := 1, ground := Ground.phase }, { on := 2, ground := Ground.phase }, { on := 3, ground := Ground.phase }, { on := 4, ground := Ground.phase }, { on := 5, ground := Ground.phase }, { on := 6, ground := Ground.phase }, { on := 7, ground := Ground.phase }, { on := 8, ground := Ground.phase }, { on := 9, ground := Ground.phase }, { on := 10, ground := Ground.textOnly Departure.lateStores }], guard := none }) (v := ?_) rfl (by kernel_rfl) (by kernel_rfl) (by kernel_rfl) (fun _ _ _ h => h) (Or.inl ⟨by kernel_rfl, ?_⟩) (by assumption) ?_
            rotate_left 1
            · intro w' hSw
              (try dsimp only at hSw)
              obtain ⟨z0, z1, z2, z3, z4, z5, z6, z7, z8, z9⟩ := hSw.1
              clear hSw
              go_simp
              all_goals (with_reducible rfl)
            try (conv => arg 8; simp only [Act.put, List.setIfInBounds_toArray, List.set_cons_zero, List.set_cons_succ])
            refine wpAnyH_take (i := 12) (oi := { dst := some 14, op := Op.assign (Operand.tmp 97), type := 30, pos := "law.go:128", after := #[{ on := 10, ground := Ground.data }, { on := 11, ground := Ground.chain }, { on := 0, ground := Ground.phase }, { on := 1, ground := Ground.phase }, { on := 2, ground := Ground.phase }, { on := 3, ground := Ground.phase }, { on := 4, ground := Ground.phase }, { on := 5, ground := Ground.phase }, { on := 6, ground := Ground.phase }, { on := 7, ground := Ground.phase }, { on := 8, ground := Ground.phase }, { on := 9, ground := Ground.phase }, { on := 10, ground := Ground.phase }, { on := 11, ground := Ground.phase }], guard := none }) (v := ?_) rfl (by kernel_rfl) (by kernel_rfl) (by kernel_rfl) (fun _ _ _ h => h) (Or.inl ⟨by kernel_rfl, ?_⟩) (by assumption) ?_
            rotate_left 1
            · intro w' hSw
              (try dsimp only at hSw)
              obtain ⟨z0, z1, z2, z3, z4, z5, z6, z7, z8, z9⟩ := hSw.1
              clear hSw
              go_simp
              all_goals (with_reducible rfl)
            try (conv => arg 8; simp only [Act.put, List.setIfInBounds_toArray, List.set_cons_zero, List.set_cons_succ])
            refine wpAnyH_done (by kernel_rfl) ?_ _
            try simp only [Act.put, List.getElem_toArray, List.getElem_cons_succ, List.getElem_cons_zero, List.setIfInBounds_toArray, List.set_cons_zero, List.set_cons_succ]
            have hkF := HK4.out.trans (hk.mono HK4.out.size)
            clear hHeld hk
            rcases HD3.out with d3 | ⟨d3, d4⟩
            all_goals
              go_wp2
              go_ret
              exact ⟨rfl, hkF⟩
          refine AllReadyH.cons (o := { dst := some 93, op := Op.buildSlice 28 1 #[(0, Operand.tmp 92)], type := 28, pos := "law.go:128", after := #[{ on := 4, ground := Ground.data }], guard := none }) rfl (fun K hK => ?_) AllReadyH.nil
          refine want (by kernel_rfl) ?_
          refine op_bs1 (E := 50) run_bsP 93 _ (x.1, x.2.1, 0) rfl rfl rfl ?_
          intro gt y1 hT' et hb
          have hne := own_lt hO (g := gt) (by omega)
          clear et
          replace hO := own_below hO hb
          replace hk := kf_step' hb hk
          clear hb
          have hT := hT'
          clear hT'
          refine hK.out _ _ (hKP.out _ hk) (fun hHeld => ?_)
          clear hK K
          try (conv => arg 8; simp only [Act.put, List.setIfInBounds_toArray, List.set_cons_zero, List.set_cons_succ])
          clear hHeld
          refine wpAnyH_ready (rs := [3]) (by kernel_rfl) (by simp) ?_
          refine AllReadyH.cons (o := { dst := some 91, op := Op.call { callee := Callee.builtin Builtin.append, args := #[Operand.tmp 89, Operand.tmp 90], argTypes := #[28, 28] }, type := 28, pos := "law.go:128", after := #[{ on := 1, ground := Ground.data }, { on := 2, ground := Ground.data }], guard := none }) rfl (fun K hK => ?_) AllReadyH.nil
          refine want (by kernel_rfl) ?_
          refine op_app (T := 28) (E := 50) (by kernel_rfl) infP 91 _ _ rfl rfl W4.heap.size v 0 [] rfl hO pl len cap L rfl HLn.out (HI4.out.below hk (Nat.le_refl _)) (by omega) hk.size ?_
          intro v2 y2 hO2 hgr hat
          have hne2 := ne_app hne (lt_of_at hT) hat
          replace hT := OneP.grown hT hgr hne
          clear hne
          replace hk := kf_grown hgr hk hO
          clear hgr hat hO
          rw [List.nil_append, Nat.zero_add] at hO2
          refine hK.out _ _ (hKP.out _ hk) (fun hHeld => ?_)
          clear hK K
          try (conv => arg 8; simp only [Act.put, List.setIfInBounds_toArray, List.set_cons_zero, List.set_cons_succ])
          clear hHeld
          refine wpAnyH_ready (rs := [6]) (by kernel_rfl) (by simp) ?_
          refine AllReadyH.cons (o := { dst := some 94, op := Op.call { callee := Callee.builtin Builtin.append, args := #[Operand.tmp 91, Operand.tmp 93], argTypes := #[28, 28] }, type := 28, pos := "law.go:128", after := #[{ on := 3, ground := Ground.data }, { on := 5, ground := Ground.data }, { on := 3, ground := Ground.chain }], guard := none }) rfl (fun K hK => ?_) AllReadyH.nil
          refine want (by kernel_rfl) ?_
          refine op_app (T := 28) (E := 50) (by kernel_rfl) infP 94 _ _ rfl rfl W4.heap.size v2 len L rfl hO2 (some ⟨gt, 0, none⟩) 1 1 [(x.1, x.2.1, 0)] rfl rfl (OneP.pcs hT) (by omega) hk.size ?_
          intro v3 y3 hO3 hgr hat
          replace hk := kf_grown hgr hk hO2
          clear hgr hat hO2 hT hne2
          obtain ⟨q3, cr, rfl⟩ := own_slice hO3
          have hpc3 := pcs_own hO3 (by rw [List.length_append, HLn.out]; rfl)
          clear hO3
          refine hK.out _ _ (hKP.out _ hk) (fun hHeld => ?_)
          clear hK K
          try (conv => arg 8; simp only [Act.put, List.setIfInBounds_toArray, List.set_cons_zero, List.set_cons_succ])
          clear hHeld
          refine wpAnyH_ready (rs := [7]) (by kernel_rfl) (by simp) ?_
          refine AllReadyH.cons (o := { dst := some 95, op := Op.call { callee := Callee.value (Operand.func 14), args := #[Operand.tmp 88, Operand.tmp 94], argTypes := #[26, 28] }, type := 31, pos := "law.go:128", after := #[{ on := 0, ground := Ground.data }, { on := 6, ground := Ground.data }, { on := 6, ground := Ground.chain }], guard := none }) rfl (fun K hK => ?_) AllReadyH.nil
          refine want (by kernel_rfl) ?_
          refine opCall (ent_Salary ..) ?_
          refine (HSx.out q3 cr _ hpc3).mono ?_
          rintro e y4 ⟨rfl, hb⟩
          clear hpc3
          replace hk := kf_step' hb hk
          clear hb
          refine hK.out _ _ (hKP.out _ hk) (fun hHeld => ?_)
          clear hK K
          try (conv => arg 8; simp only [Act.put, List.setIfInBounds_toArray, List.set_cons_zero, List.set_cons_succ])
          refine wpAnyH_take (i := 8) (oi := { dst := some 87, op := Op.move (Operand.tmp 95), type := 31, pos := "law.go:128", after := #[{ on := 7, ground := Ground.data }], guard := none }) (v := ?_) rfl (by kernel_rfl) (by kernel_rfl) (by kernel_rfl) (fun _ _ _ h => h) (Or.inl ⟨by kernel_rfl, ?_⟩) (by assumption) ?_
          rotate_left 1
          · intro w' hSw
            (try dsimp only at hSw)
            obtain ⟨z0, z1, z2, z3, z4, z5, z6, z7, z8, z9⟩ := hSw.1
            clear hSw
            go_simp
            all_goals (with_reducible rfl)
          try (conv => arg 8; simp only [Act.put, List.setIfInBounds_toArray, List.set_cons_zero, List.set_cons_succ])
          refine wpAnyH_take (i := 9) (oi := { dst := some 96, op := Op.extract (Operand.tmp 87) 0, type := 27, pos := "law.go:128", after := #[{ on := 8, ground := Ground.data }], guard := none }) (v := ?_) rfl (by kernel_rfl) (by kernel_rfl) (by kernel_rfl) (fun _ _ _ h => h) (Or.inl ⟨by kernel_rfl, ?_⟩) (by assumption) ?_
          rotate_left 1
          · intro w' hSw
            (try dsimp only at hSw)
            obtain ⟨z0, z1, z2, z3, z4, z5, z6, z7, z8, z9⟩ := hSw.1
            clear hSw
            go_simp
            all_goals (with_reducible rfl)
          try (conv => arg 8; simp only [Act.put, List.setIfInBounds_toArray, List.set_cons_zero, List.set_cons_succ])
          refine wpAnyH_take (i := 10) (oi := { dst := some 97, op := Op.extract (Operand.tmp 87) 1, type := 30, pos := "law.go:128", after := #[{ on := 8, ground := Ground.data }, { on := 11, ground := Ground.gcOnly Departure.lateStores }], guard := none }) (v := ?_) rfl (by kernel_rfl) (by kernel_rfl) (by kernel_rfl) (fun _ _ _ h => h) (Or.inl ⟨by kernel_rfl, ?_⟩) (by assumption) ?_
          rotate_left 1
          · intro w' hSw
            (try dsimp only at hSw)
            obtain ⟨z0, z1, z2, z3, z4, z5, z6, z7, z8, z9⟩ := hSw.1
            clear hSw
            go_simp
            all_goals (with_reducible rfl)
          try (conv => arg 8; simp only [Act.put, List.setIfInBounds_toArray, List.set_cons_zero, List.set_cons_succ])
          refine wpAnyH_take (i := 11) (oi := { dst := some 13, op := Op.assign (Operand.tmp 96), type := 27, pos := "law.go:128", after := #[{ on := 9, ground := Ground.data }, { on := 7, ground := Ground.chain }, { on := 0, ground := Ground.phase }, { on := 1, ground := Ground.phase }, { on := 2, ground := Ground.phase }, { on := 3, ground := Ground.phase }, { on := 4, ground := Ground.phase }, { on := 5, ground := Ground.phase }, { on := 6, ground := Ground.phase }, { on := 7, ground := Ground.phase }, { on := 8, ground := Ground.phase }, { on := 9, ground := Ground.phase }, { on := 10, ground := Ground.textOnly Departure.lateStores }], guard := none }) (v := ?_) rfl (by kernel_rfl) (by kernel_rfl) (by kernel_rfl) (fun _ _ _ h => h) (Or.inl ⟨by kernel_rfl, ?_⟩) (by assumption) ?_
          rotate_left 1
          · intro w' hSw
            (try dsimp only at hSw)
            obtain ⟨z0, z1, z2, z3, z4, z5, z6, z7, z8, z9⟩ := hSw.1
            clear hSw
            go_simp
            all_goals (with_reducible rfl)
          try (conv => arg 8; simp only [Act.put, List.setIfInBounds_toArray, List.set_cons_zero, List.set_cons_succ])
          refine wpAnyH_take (i := 12) (oi := { dst := some 14, op := Op.assign (Operand.tmp 97), type := 30, pos := "law.go:128", after := #[{ on := 10, ground := Ground.data }, { on := 11, ground := Ground.chain }, { on := 0, ground := Ground.phase }, { on := 1, ground := Ground.phase }, { on := 2, ground := Ground.phase }, { on := 3, ground := Ground.phase }, { on := 4, ground := Ground.phase }, { on := 5, ground := Ground.phase }, { on := 6, ground := Ground.phase }, { on := 7, ground := Ground.phase }, { on := 8, ground := Ground.phase }, { on := 9, ground := Ground.phase }, { on := 10, ground := Ground.phase }, { on := 11, ground := Ground.phase }], guard := none }) (v := ?_) rfl (by kernel_rfl) (by kernel_rfl) (by kernel_rfl) (fun _ _ _ h => h) (Or.inl ⟨by kernel_rfl, ?_⟩) (by assumption) ?_
          rotate_left 1
          · intro w' hSw
            (try dsimp only at hSw)
            obtain ⟨z0, z1, z2, z3, z4, z5, z6, z7, z8, z9⟩ := hSw.1
            clear hSw
            go_simp
            all_goals (with_reducible rfl)
          try (conv => arg 8; simp only [Act.put, List.setIfInBounds_toArray, List.set_cons_zero, List.set_cons_succ])
          refine wpAnyH_done (by kernel_rfl) ?_ _
          try simp only [Act.put, List.getElem_toArray, List.getElem_cons_succ, List.getElem_cons_zero, List.setIfInBounds_toArray, List.set_cons_zero, List.set_cons_succ]
          have hkF := HK4.out.trans (hk.mono HK4.out.size)
          clear hHeld hk
          rcases HD3.out with d3 | ⟨d3, d4⟩
          all_goals
            go_wp2
            go_ret
            exact ⟨rfl, hkF⟩
        refine AllReadyH.cons (o := { dst := some 93, op := Op.buildSlice 28 1 #[(0, Operand.tmp 92)], type := 28, pos := "law.go:128", after := #[{ on := 4, ground := Ground.data }], guard := none }) rfl (fun K hK => ?_) AllReadyH.nil
        refine want (by kernel_rfl) ?_
        refine op_bs1 (E := 50) run_bsP 93 _ (x.1, x.2.1, 0) rfl rfl rfl ?_
        intro gt y0 hT' et hb
        clear et
        replace hk := kf_step' hb hk
        clear hb
        have hT := hT'
        clear hT'
        refine hK.out _ _ (hKP.out _ hk) (fun hHeld => ?_)
        clear hK K
        try (conv => arg 8; simp only [Act.put, List.setIfInBounds_toArray, List.set_cons_zero, List.set_cons_succ])
        clear hHeld
        refine wpAnyH_ready (rs := [1]) (by kernel_rfl) (by simp) ?_
        refine AllReadyH.cons (o := { dst := some 89, op := Op.buildSlice 28 0 #[], type := 28, pos := "law.go:128", after := #[], guard := none }) rfl (fun K hK => ?_) AllReadyH.nil
        refine want (by kernel_rfl) ?_
        refine op_bs0 89 rfl rfl W4.heap.size hk.size ?_
        intro v y1 hO' hv hb
        have hne := ne_new (lt_of_at hT) hv
        clear hv
        replace hT := OneP.below hT hb
        replace hk := kf_step' hb hk
        clear hb
        have hO := hO'
        clear hO'
        refine hK.out _ _ (hKP.out _ hk) (fun hHeld => ?_)
        clear hK K
        try (conv => arg 8; simp only [Act.put, List.setIfInBounds_toArray, List.set_cons_zero, List.set_cons_succ])
        clear hHeld
        refine wpAnyH_ready (rs := [3]) (by kernel_rfl) (by simp) ?_
        refine AllReadyH.cons (o := { dst := some 91, op := Op.call { callee := Callee.builtin Builtin.append, args := #[Operand.tmp 89, Operand.tmp 90], argTypes := #[28, 28] }, type := 28, pos := "law.go:128", after := #[{ on := 1, ground := Ground.data }, { on := 2, ground := Ground.data }], guard := none }) rfl (fun K hK => ?_) AllReadyH.nil
        refine want (by kernel_rfl) ?_
        refine op_app (T := 28) (E := 50) (by kernel_rfl) infP 91 _ _ rfl rfl W4.heap.size v 0 [] rfl hO pl len cap L rfl HLn.out (HI4.out.below hk (Nat.le_refl _)) (by omega) hk.size ?_
        intro v2 y2 hO2 hgr hat
        have hne2 := ne_app hne (lt_of_at hT) hat
        replace hT := OneP.grown hT hgr hne
        clear hne
        replace hk := kf_grown hgr hk hO
        clear hgr hat hO
        rw [List.nil_append, Nat.zero_add] at hO2
        refine hK.out _ _ (hKP.out _ hk) (fun hHeld => ?_)
        clear hK K
        try (conv => arg 8; simp only [Act.put, List.setIfInBounds_toArray, List.set_cons_zero, List.set_cons_succ])
        clear hHeld
        refine wpAnyH_ready (rs := [6]) (by kernel_rfl) (by simp) ?_
        refine AllReadyH.cons (o := { dst := some 94, op := Op.call { callee := Callee.builtin Builtin.append, args := #[Operand.tmp 91, Operand.tmp 93], argTypes := #[28, 28] }, type := 28, pos := "law.go:128", after := #[{ on := 3, ground := Ground.data }, { on := 5, ground := Ground.data }, { on := 3, ground := Ground.chain }], guard := none }) rfl (fun K hK => ?_) AllReadyH.nil
        refine want (by kernel_rfl) ?_
        refine op_app (T := 28) (E := 50) (by kernel_rfl) infP 94 _ _ rfl rfl W4.heap.size v2 len L rfl hO2 (some ⟨gt, 0, none⟩) 1 1 [(x.1, x.2.1, 0)] rfl rfl (OneP.pcs hT) (by omega) hk.size ?_
        intro v3 y3 hO3 hgr hat
        replace hk := kf_grown hgr hk hO2
        clear hgr hat hO2 hT hne2
        obtain ⟨q3, cr, rfl⟩ := own_slice hO3
        have hpc3 := pcs_own hO3 (by rw [List.length_append, HLn.out]; rfl)
        clear hO3
        refine hK.out _ _ (hKP.out _ hk) (fun hHeld => ?_)
        clear hK K
        try (conv => arg 8; simp only [Act.put, List.setIfInBounds_toArray, List.set_cons_zero, List.set_cons_succ])
        clear hHeld
        refine wpAnyH_ready (rs := [7]) (by kernel_rfl) (by simp) ?_
        refine AllReadyH.cons (o := { dst := some 95, op := Op.call { callee := Callee.value (Operand.func 14), args := #[Operand.tmp 88, Operand.tmp 94], argTypes := #[26, 28] }, type := 31, pos := "law.go:128", after := #[{ on := 0, ground := Ground.data }, { on := 6, ground := Ground.data }, { on := 6, ground := Ground.chain }], guard := none }) rfl (fun K hK => ?_) AllReadyH.nil
        refine want (by kernel_rfl) ?_
        refine opCall (ent_Salary ..) ?_
        refine (HSx.out q3 cr _ hpc3).mono ?_
        rintro e y4 ⟨rfl, hb⟩
        clear hpc3
        replace hk := kf_step' hb hk
        clear hb
        refine hK.out _ _ (hKP.out _ hk) (fun hHeld => ?_)
        clear hK K
        try (conv => arg 8; simp only [Act.put, List.setIfInBounds_toArray, List.set_cons_zero, List.set_cons_succ])
        refine wpAnyH_take (i := 8) (oi := { dst := some 87, op := Op.move (Operand.tmp 95), type := 31, pos := "law.go:128", after := #[{ on := 7, ground := Ground.data }], guard := none }) (v := ?_) rfl (by kernel_rfl) (by kernel_rfl) (by kernel_rfl) (fun _ _ _ h => h) (Or.inl ⟨by kernel_rfl, ?_⟩) (by assumption) ?_
        rotate_left 1
        · intro w' hSw
          (try dsimp only at hSw)
          obtain ⟨z0, z1, z2, z3, z4, z5, z6, z7, z8, z9⟩ := hSw.1
          clear hSw
          go_simp
          all_goals (with_reducible rfl)
        try (conv => arg 8; simp only [Act.put, List.setIfInBounds_toArray, List.set_cons_zero, List.set_cons_succ])
        refine wpAnyH_take (i := 9) (oi := { dst := some 96, op := Op.extract (Operand.tmp 87) 0, type := 27, pos := "law.go:128", after := #[{ on := 8, ground := Ground.data }], guard := none }) (v := ?_) rfl (by kernel_rfl) (by kernel_rfl) (by kernel_rfl) (fun _ _ _ h => h) (Or.inl ⟨by kernel_rfl, ?_⟩) (by assumption) ?_
        rotate_left 1
        · intro w' hSw
          (try dsimp only at hSw)
          obtain ⟨z0, z1, z2, z3, z4, z5, z6, z7, z8, z9⟩ := hSw.1
          clear hSw
          go_simp
          all_goals (with_reducible rfl)
        try (conv => arg 8; simp only [Act.put, List.setIfInBounds_toArray, List.set_cons_zero, List.set_cons_succ])
        refine wpAnyH_take (i := 10) (oi := { dst := some 97, op := Op.extract (Operand.tmp 87) 1, type := 30, pos := "law.go:128", after := #[{ on := 8, ground := Ground.data }, { on := 11, ground := Ground.gcOnly Departure.lateStores }], guard := none }) (v := ?_) rfl (by kernel_rfl) (by kernel_rfl) (by kernel_rfl) (fun _ _ _ h => h) (Or.inl ⟨by kernel_rfl, ?_⟩) (by assumption) ?_
        rotate_left 1
        · intro w' hSw
          (try dsimp only at hSw)
          obtain ⟨z0, z1, z2, z3, z4, z5, z6, z7, z8, z9⟩ := hSw.1
          clear hSw
          go_simp
          all_goals (with_reducible rfl)
        try (conv => arg 8; simp only [Act.put, List.setIfInBounds_toArray, List.set_cons_zero, List.set_cons_succ])
        refine wpAnyH_take (i := 11) (oi := { dst := some 13, op := Op.assign (Operand.tmp 96), type := 27, pos := "law.go:128", after := #[{ on := 9, ground := Ground.data }, { on := 7, ground := Ground.chain }, { on := 0, ground := Ground.phase }, { on := 1, ground := Ground.phase }, { on := 2, ground := Ground.phase }, { on := 3, ground := Ground.phase }, { on := 4, ground := Ground.phase }, { on := 5, ground := Ground.phase }, { on := 6, ground := Ground.phase }, { on := 7, ground := Ground.phase }, { on := 8, ground := Ground.phase }, { on := 9, ground := Ground.phase }, { on := 10, ground := Ground.textOnly Departure.lateStores }], guard := none }) (v := ?_) rfl (by kernel_rfl) (by kernel_rfl) (by kernel_rfl) (fun _ _ _ h => h) (Or.inl ⟨by kernel_rfl, ?_⟩) (by assumption) ?_
        rotate_left 1
        · intro w' hSw
          (try dsimp only at hSw)
          obtain ⟨z0, z1, z2, z3, z4, z5, z6, z7, z8, z9⟩ := hSw.1
          clear hSw
          go_simp
          all_goals (with_reducible rfl)
        try (conv => arg 8; simp only [Act.put, List.setIfInBounds_toArray, List.set_cons_zero, List.set_cons_succ])
        refine wpAnyH_take (i := 12) (oi := { dst := some 14, op := Op.assign (Operand.tmp 97), type := 30, pos := "law.go:128", after := #[{ on := 10, ground := Ground.data }, { on := 11, ground := Ground.chain }, { on := 0, ground := Ground.phase }, { on := 1, ground := Ground.phase }, { on := 2, ground := Ground.phase }, { on := 3, ground := Ground.phase }, { on := 4, ground := Ground.phase }, { on := 5, ground := Ground.phase }, { on := 6, ground := Ground.phase }, { on := 7, ground := Ground.phase }, { on := 8, ground := Ground.phase }, { on := 9, ground := Ground.phase }, { on := 10, ground := Ground.phase }, { on := 11, ground := Ground.phase }], guard := none }) (v := ?_) rfl (by kernel_rfl) (by kernel_rfl) (by kernel_rfl) (fun _ _ _ h => h) (Or.inl ⟨by kernel_rfl, ?_⟩) (by assumption) ?_
        rotate_left 1
        · intro w' hSw
          (try dsimp only at hSw)
          obtain ⟨z0, z1, z2, z3, z4, z5, z6, z7, z8, z9⟩ := hSw.1
          clear hSw
          go_simp
          all_goals (with_reducible rfl)
        try (conv => arg 8; simp only [Act.put, List.setIfInBounds_toArray, List.set_cons_zero, List.set_cons_succ])
        refine wpAnyH_done (by kernel_rfl) ?_ _
        try simp only [Act.put, List.getElem_toArray, List.getElem_cons_succ, List.getElem_cons_zero, List.setIfInBounds_toArray, List.set_cons_zero, List.set_cons_succ]
        have hkF := HK4.out.trans (hk.mono HK4.out.size)
        clear hHeld hk
        rcases HD3.out with d3 | ⟨d3, d4⟩
        all_goals
          go_wp2
          go_ret
          exact ⟨rfl, hkF⟩
    · obtain ⟨j, rfl⟩ : ∃ j, k = j + 1 := ⟨k - 1, by omega⟩
      obtain rfl : z = (j : Int) := by omega
      clear hz
      have hjl : j < L.length := by rw [HLn.out]; omega
      have hji : (j : Int) < (len : Int) := by omega
      have hj0 : (0 : Int) ≤ (j : Int) := by omega
      rcases (HI1.out.below hbr (Nat.le_refl _)) with h | ⟨bl, o, rfl, hc⟩
      · rw [h] at hjl; simp at hjl
      obtain ⟨c0, c1, c2, c3⟩ := hc j hjl
      have HRn := Lib.hid (rev_next hjl)
      have HDn := Lib.hid (drop_next hjl)
      clear hc
      generalize L.getD j ((0, 0), 0, 0) = t at *
      obtain ⟨⟨t0, t1⟩, tY, tP⟩ := t
      dsimp only at c0 c1 c2 c3
      by_cases hbad : 1099511627776 < tY ∨ tY < -1099511627776 ∨ 1000000 < tP ∨ tP < 0
      · have hb4 : 1099511627776 < tY ∨ (¬ 1099511627776 < tY ∧ tY < -1099511627776) ∨ (¬ 1099511627776 < tY ∧ ¬ tY < -1099511627776 ∧ 1000000 < tP) ∨ (¬ 1099511627776 < tY ∧ ¬ tY < -1099511627776 ∧ ¬ 1000000 < tP ∧ tP < 0) := by omega
        clear hbad
        rcases hb4 with g | ⟨g1, g⟩ | ⟨g1, g2, g⟩ | ⟨g1, g2, g3, g⟩
        all_goals
          go_wp2
          go_ret
          exact ⟨rfl, hk1.trans (hbr.mono hk1.size)⟩
      have g1 : ¬ 1099511627776 < tY := by omega
      have g2 : ¬ tY < -1099511627776 := by omega
      have g3 : ¬ 1000000 < tP := by omega
      have g4 : ¬ tP < 0 := by omega
      have HS2 : Hid (∀ q ∈ L.drop j, smallP q) := Lib.hid (fun q hq => by
        rw [HDn.out] at hq
        rcases List.mem_cons.1 hq with rfl | hq
        · unfold smallP; dsimp only; omega
        · exact HS.out q hq)
      have HNx : Hid (pcC ((L.drop j).reverse) = pcC ((L.drop (j + 1)).reverse) ++ [.int .i64 t0, .int .i64 t1, .int .i64 tY, .int .i64 tP]) := Lib.hid (by rw [HRn.out, pcC_app]; rfl)
      have hsz := hbr.size
      have hlk : len - (j + 1) + 1 = len - j := by omega
      clear hbad
      go_wp2_with (at_builtin; refine Sp.app_arm Try.underlying28 infP rfl (by omega) (by omega) w1.heap.size wr _ (len - (j + 1)) _ HO.out 1 [.int .i64 t0, .int .i64 t1, .int .i64 tY, .int .i64 tP] rfl (one4 _ _ _ _) (by omega) hsz rfl _ _ rfl rfl rfl ?_; intro v' w3 ho hg; have HO3 := Lib.hid ho; have HG3 := Lib.hid hg; clear ho hg)
      have hbz := (hbr.alloc hbr.size (.cells #[.int .i64 t0, .int .i64 t1, .int .i64 tY, .int .i64 tP] 50))
      exact ⟨⟨j, _, by omega, rfl, rfl, Lib.hid (by rw [HNx.out, ← hlk]; exact HO3.out), HS2, hbz.grown HG3.out hbz.size (own_from HO.out)⟩, by simp [RowKit.intOf]⟩

end Go.Proofs.Ytamglmenljgbdaa
