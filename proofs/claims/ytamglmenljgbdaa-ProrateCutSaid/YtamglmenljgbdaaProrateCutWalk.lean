/-
  What is proved: the walk of the statement ProrateCut: the call returns true. Conditions: what came in is as the frame says.
-/
import Derived.Test.YtamglmenljgbdaaPrH
import Derived.Test.YtamglmenljgbdaaPrN
import Derived.Test.YtamglmenljgbdaaPrMf
import Derived.Test.YtamglmenljgbdaaFrameR
import Derived.Deep.DeepCutAuto
namespace Go.Proofs.Ytamglmenljgbdaa
open Go Go.RowKit Go.Proofs
set_option linter.unusedVariables false
set_option linter.unusedSimpArgs false

/-- Two boxes of a piece each. -/
def Twin (W4 : World) (q r : Pc) (s t : Value) (wx : World) : Prop := ∃ g h : Nat, s = .pointer (some ⟨g, 0, none⟩) ∧ t = .pointer (some ⟨h, 0, none⟩) ∧ g ≠ h ∧ W4.heap.size ≤ g ∧ W4.heap.size ≤ h ∧ Bx wx g q ∧ Bx wx h r ∧ Below W4.heap.size W4 wx
/-- A list of pieces, laid. -/
def LaidP (W5 : World) (M : List Pc) (n : Nat) (s : Value) (wx : World) : Prop := ∃ (q : Option Addr) (c : Nat), s = .slice q n c ∧ PcsIn wx q M ∧ Below W5.heap.size W5 wx
set_option maxHeartbeats 8000000 in
set_option maxRecDepth 100000 in
theorem walkProrateCut (py i n a b pd : Int) (pl : Option Addr) (len cap : Nat) (L : List Pc) (u t y : Int) (w : World) (hp : in64 py ∧ in64 i ∧ in64 n ∧ in64 a ∧ in64 b ∧ in64 pd) (hl : PcsArg w pl len cap L) (hu : (Lit.int .u8 u).wf = true) (ht : (Lit.int .u16 t).wf = true) (_ : (Lit.int .i64 y).wf = true) :
    Calls Try.prog 7 #[.agg #[.int .i64 py, .int .i64 i, .int .i64 n, .int .i64 a, .int .i64 b, .int .i64 pd], .slice pl len cap, .int .u8 u, .int .u16 t, .int .i64 y] w fun e w' => e = .returned (.bool true) ∧ Below w.heap.size w w' := by
  have hu1 : 0 ≤ u ∧ u ≤ 255 := by
    simp [Lit.wf, IntKind.min, IntKind.max, IntKind.signed, IntKind.bits] at hu
    omega
  have ht1 : 0 ≤ t ∧ t ≤ 65535 := by
    simp [Lit.wf, IntKind.min, IntKind.max, IntKind.signed, IntKind.bits] at ht
    omega
  clear hu ht
  obtain ⟨-, hi, -, ha, hb, -⟩ := hp
  obtain ⟨hln, hin, h64, hmx, hcap, hcapm, -⟩ := hl
  unfold maxLen at hmx hcapm
  have hk0 := (Below.refl w.heap.size w).alloc (Nat.le_refl _) (.cells #[.int .i64 py, .int .i64 i, .int .i64 n, .int .i64 a, .int .i64 b, .int .i64 pd] 26)
  have HP0 := Lib.hid (show P6 (w.alloc (.cells #[.int .i64 py, .int .i64 i, .int .i64 n, .int .i64 a, .int .i64 b, .int .i64 pd] 26)) w.heap.size py i n a b pd by unfold P6; refine ⟨?_, ?_, ?_, ?_, ?_, ?_⟩ <;> (rw [World.cell?_alloc_new]; rfl))
  have HI0 := Lib.hid hin
  have HLn := Lib.hid hln
  have H64 := Lib.hid h64
  clear hln hin h64
  by_cases hbig : 20 < len
  · have hi1 : (20 : Int) < (len : Int) := by omega
    go_enter Try.func7, Try.ntmps7
    go_wp2_with fail
    refine (awake_any _).mono ?_
    rintro e w1 ⟨rfl, hb1⟩
    go_wp2
    go_ret
    exact ⟨rfl, hk0.trans (hb1.mono hk0.size)⟩
  have hi1 : ¬ (20 : Int) < (len : Int) := by omega
  have hlen20 : len ≤ 20 := by omega
  clear hbig
  have HPe := Lib.hid (fun W => Period_any py i n a b pd y W hi)
  have hS1 := fun W g (h : PcsIn W (some ⟨g, 0, none⟩) [((a, b), y, 1000000)]) => Salary_any py pd a b i n (some ⟨g, 0, none⟩) 1 1 [((a, b), y, 1000000)] W ha hb hi rfl (by omega) (fun q hq => by rw [List.mem_singleton.1 hq]; exact ⟨ha, hb⟩) h
  have hwh := sal_whole (a := a) (b := b) (i := i) (n := n) (y := y)
  have HS1 := Lib.hid hS1
  generalize (salVE a b i n [((a, b), y, 1000000)]).1 = V1 at *
  generalize (salVE a b i n [((a, b), y, 1000000)]).2 = E1 at *
  generalize perV y i n = V2 at *
  generalize perE y i n = E2 at *
  have h7 : (E1 == 0) = false ∨ ((E1 == 0) = true ∧ (E2 != 0) = false ∧ (V1 != V2) = false) := by
    by_cases h : E1 = 0
    · obtain ⟨h2, h3⟩ := hwh h
      exact .inr ⟨by simpa using h, by simpa using h2, by simpa using h3⟩
    · exact .inl (by simpa using h)
  clear hwh hS1
  go_enter Try.func7, Try.ntmps7
  go_wp2_with fail
  refine (awake_any _).mono ?_
  rintro e w1 ⟨rfl, hb1⟩
  have hk1 := hk0.trans (hb1.mono hk0.size)
  have HP1 := Lib.hid (HP0.out.kp hb1)
  obtain ⟨f0, f1, f2, f3, f4, f5⟩ := HP1.out
  have hba := (Below.refl w1.heap.size w1).alloc (Nat.le_refl _) (.cells #[.int .i64 a, .int .i64 b, .int .i64 y, .int .i64 1000000] 50)
  go_wp2_with fail
  refine (HS1.out _ _ (one_pc w1 a b y 1000000 _)).mono ?_
  rintro e w2 ⟨rfl, hb2⟩
  have hx2 := hba.trans (hb2.mono hba.size)
  have hk2 := hk1.trans (hx2.mono hk1.size)
  have HP2 := Lib.hid (HP1.out.kp hx2)
  clear f0 f1 f2 f3 f4 f5
  obtain ⟨f0, f1, f2, f3, f4, f5⟩ := HP2.out
  go_wp2_with fail
  refine (HPe.out _).mono ?_
  rintro e w3 ⟨rfl, hb3⟩
  have hk3 := hk2.trans (hb3.mono hk2.size)
  have HP3 := Lib.hid (HP2.out.kp hb3)
  have HI3 := Lib.hid (HI0.out.below hk3 (Nat.le_refl _))
  clear f0 f1 f2 f3 f4 f5
  have hS2 := Salary_any py pd a b i n pl len cap L w3 ha hb hi HLn.out (by omega) (fun q hq => ⟨(H64.out q hq).1, (H64.out q hq).2.1⟩) HI3.out
  have HK3 := Lib.hid hk3
  obtain ⟨wz, hwz⟩ : ∃ wz, wz = w3 := ⟨_, rfl⟩
  have hSE : (salVE a b i n L).2 ≠ 0 ∨ (len = 0 ∧ salVE a b i n L = (0, 0)) ∨ (0 < len ∧ (salVE a b i n L).2 = 0) := by
    by_cases h0 : (salVE a b i n L).2 = 0
    · by_cases hl0 : len = 0
      · have : L = [] := List.length_eq_zero_iff.1 (by rw [HLn.out]; exact hl0)
        exact .inr (.inl ⟨hl0, by rw [this]; rfl⟩)
      · exact .inr (.inr ⟨by omega, h0⟩)
    · exact .inl h0
  clear hb1 hb2 hb3 hk0 hk1 hk2 hk3 hx2 hba HS1 HPe
  rw [← hwz] at hS2
  have HS2 := Lib.hid hS2
  clear hS2
  rcases h7 with d1 | ⟨d1, d2, d3⟩
  all_goals
    obtain ⟨f0, f1, f2, f3, f4, f5⟩ := HP3.out
    go_wp2_with fail
    rw [← hwz]
    refine HS2.out.mono ?_
    rintro e w4 ⟨rfl, hb4⟩
    rw [hwz] at hb4
    have hk4 := HK3.out.trans (hb4.mono HK3.out.size)
    have HP4 := Lib.hid (HP3.out.kp hb4)
    clear f0 f1 f2 f3 f4 f5
    rcases hSE with e2 | ⟨e2, e3⟩ | ⟨e2, e3⟩
    rotate_left 2
    · generalize hV3 : (salVE a b i n L).1 = V3
      rw [e3]
      obtain ⟨k, hk, hkl⟩ : ∃ k : Nat, u.tmod (len : Int) = (k : Int) ∧ k < len := ⟨(u % (len : Int)).toNat, by
        have h1 := Int.emod_nonneg u (show (len : Int) ≠ 0 by omega)
        rw [Int.tmod_eq_emod_of_nonneg hu1.1]; omega, by
        have h1 := Int.emod_nonneg u (show (len : Int) ≠ 0 by omega)
        have h2 := Int.emod_lt_of_pos u (show 0 < (len : Int) by omega)
        omega⟩
      have hkL : k < L.length := by rw [HLn.out]; exact hkl
      have HI4 := HI3.out.below hb4 (Nat.le_refl _)
      rcases HI4 with h | ⟨bl, o, rfl, hc⟩
      · rw [h] at hkL; simp at hkL
      obtain ⟨c0, c1, c2, c3⟩ := hc k hkL
      have hcl := cut_list hkL
      have HIn := Lib.hid (show PcsIn w4 (some ⟨bl, o, none⟩) L from .inr ⟨bl, o, rfl, hc⟩)
      have hq64 := H64.out _ (List.getElem_mem (h := hkL))
      rw [show L[k] = L.getD k ((0, 0), 0, 0) by simp [List.getD, hkL]] at hq64
      clear hc
      generalize L.getD k ((0, 0), 0, 0) = q at *
      obtain ⟨⟨x, z⟩, Y, P⟩ := q
      dsimp only at c0 c1 c2 c3
      have hL20 : (L.take k ++ ((x, z), Y, P) :: L.drop (k + 1)).length ≤ 20 := by rw [← hcl, HLn.out]; exact hlen20
      have hokP := sal_at (a := a) (b := b) (i := i) (n := n) hL20 (by rw [← hcl]; exact e3)
      obtain ⟨o1, o2, o3, o4⟩ := hokP
      dsimp only at o1 o2 o3
      have hcut : ∀ m, x < m → m < z → salVE a b i n (L.take k ++ ((x, m), Y, P) :: ((m, z), Y, P) :: L.drop (k + 1)) = (V3, 0) := fun m h1 h2 => by
        rw [sal_cut hL20 h1 h2 (by rw [← hcl]; exact e3), ← hcl, ← hV3, ← e3]
      have HCut := Lib.hid hcut
      have hki : (k : Int) < (len : Int) := by omega
      have hk00 : (0 : Int) ≤ (k : Int) := by omega
      have hl00 : ((len : Int) == 0) = false := by rw [beq_eq_false_iff_ne]; omega
      have hl01 : ¬ (len : Int) = 0 := by omega
      have n1 : IntKind.i64.wrap (z - x) = z - x := IntWalk.i64_in _ (by unfold in64 at *; omega)
      have HO := Lib.hid (And.intro o1 (And.intro o2 (And.intro o3 o4)))
      have HA64 := Lib.hid (And.intro ha hb)
      clear hcut hL20 hcl o1 o2 o3 o4 hV3 hq64 e2 e3 HS2 ha hb
      go_wp2
      go_quiet (fail)
      obtain ⟨W5, hW5⟩ : ∃ W5, W5 = w4.drewN nq := ⟨_, rfl⟩
      have hc5 : W5.cell? ⟨bl, o + k * 4, none⟩ = some (.int .i64 x) ∧ W5.cell? ⟨bl, o + k * 4 + 1, none⟩ = some (.int .i64 z) ∧ W5.cell? ⟨bl, o + k * 4 + 2, none⟩ = some (.int .i64 Y) ∧ W5.cell? ⟨bl, o + k * 4 + 3, none⟩ = some (.int .i64 P) := by rw [hW5]; exact ⟨c0, c1, c2, c3⟩
      have hk5 : Below w.heap.size w W5 := by rw [hW5]; exact below_drewN hk4 _
      have HP5 := Lib.hid (show P6 W5 w.heap.size py i n a b pd by rw [hW5]; exact HP4.out)
      have HI5 := Lib.hid (show PcsIn W5 (some ⟨bl, o, none⟩) L by rw [hW5]; exact HIn.out)
      rw [← hW5]
      clear hW5 c0 c1 c2 c3 HP4 HIn n1 hk4 hb4
      obtain ⟨c0, c1, c2, c3⟩ := hc5
      by_cases hd : z - x < 2
      · go_wp2
        go_ret
        exact ⟨rfl, hk5⟩
      have hd' : ¬ z - x < 2 := hd
      obtain ⟨r, hr, hrl⟩ : ∃ r : Nat, t.tmod (z - x - 1) = (r : Int) ∧ (r : Int) < z - x - 1 := ⟨(t % (z - x - 1)).toNat, by
        have h1 := Int.emod_nonneg t (show z - x - 1 ≠ 0 by omega)
        rw [Int.tmod_eq_emod_of_nonneg ht1.1]; omega, by
        have h1 := Int.emod_nonneg t (show z - x - 1 ≠ 0 by omega)
        have h2 := Int.emod_lt_of_pos t (show 0 < z - x - 1 by omega)
        omega⟩
      obtain ⟨ha, hb⟩ := HA64.out
      obtain ⟨o1, o2, o3, o4⟩ := HO.out
      obtain ⟨m, hm⟩ : ∃ m, m = x + (1 + (r : Int)) := ⟨_, rfl⟩
      have hxm : x < m := by omega
      have hmz : m < z := by omega
      have n1 : IntKind.i64.wrap (z - x - 1) = z - x - 1 := IntWalk.i64_in _ (by unfold in64 at *; omega)
      have n2 : IntKind.i64.wrap (1 + (r : Int)) = 1 + (r : Int) := IntWalk.i64_in _ (by unfold in64 at *; omega)
      have n3 : IntKind.i64.wrap (x + (1 + (r : Int))) = m := by rw [← hm]; exact IntWalk.i64_in _ (by unfold in64 at *; omega)
      have n4 : (z - x - 1 == 0) = false := by rw [beq_eq_false_iff_ne]; omega
      have n5 : ¬ z - x - 1 = 0 := by omega
      have HC2 := Lib.hid (HCut.out m hxm hmz)
      have hin64 : in64 x ∧ in64 m ∧ in64 z := by unfold in64 at *; omega
      have HX := Lib.hid hin64
      clear hm hxm hmz o1 o2 o3 o4 HCut HO hin64 hd hrl
      go_wp2
      go_quiet (fail)
      obtain ⟨W4, hW4⟩ : ∃ W4, W4 = W5.drewN nq := ⟨_, rfl⟩
      have hc5 : W4.cell? ⟨bl, o + k * 4, none⟩ = some (.int .i64 x) ∧ W4.cell? ⟨bl, o + k * 4 + 1, none⟩ = some (.int .i64 z) ∧ W4.cell? ⟨bl, o + k * 4 + 2, none⟩ = some (.int .i64 Y) ∧ W4.cell? ⟨bl, o + k * 4 + 3, none⟩ = some (.int .i64 P) := by rw [hW4]; exact ⟨c0, c1, c2, c3⟩
      have hk4 : Below w.heap.size w W4 := by rw [hW4]; exact below_drewN hk5 _
      have HP4 := Lib.hid (show P6 W4 w.heap.size py i n a b pd by rw [hW4]; exact HP5.out)
      have HI4 := Lib.hid (show PcsIn W4 (some ⟨bl, o, none⟩) L by rw [hW4]; exact HI5.out)
      go_upto_region 17 with fail
      rw [← hW4]
      clear hW4 c0 c1 c2 c3 HP5 HI5 n1 n2 n3 n4 n5 hk5
      obtain ⟨c0, c1, c2, c3⟩ := hc5
      have HK4 := Lib.hid hk4
      clear hk4
      go_cut [20, 21] (fun s20 s21 wx => Twin W4 ((x, z), Y, P) ((x, z), Y, P) s20 s21 wx)
      case first =>
        have hKP : Hid (∀ w', Below W4.heap.size W4 w' → (w'.cell? ⟨bl, o + k * 4, none⟩ = some (.int .i64 x) ∧ w'.cell? ⟨bl, o + k * 4 + 1, none⟩ = some (.int .i64 z) ∧ w'.cell? ⟨bl, o + k * 4 + 2, none⟩ = some (.int .i64 Y) ∧ w'.cell? ⟨bl, o + k * 4 + 3, none⟩ = some (.int .i64 P)) ∧ Below W4.heap.size W4 w') := Lib.hid (fun w' h => ⟨⟨stay h c0, stay h c1, stay h c2, stay h c3⟩, h⟩)
        clear c0 c1 c2 c3
        refine wp_region_held_drew (S := fun w' => (w'.cell? ⟨bl, o + k * 4, none⟩ = some (.int .i64 x) ∧ w'.cell? ⟨bl, o + k * 4 + 1, none⟩ = some (.int .i64 z) ∧ w'.cell? ⟨bl, o + k * 4 + 2, none⟩ = some (.int .i64 Y) ∧ w'.cell? ⟨bl, o + k * 4 + 3, none⟩ = some (.int .i64 P)) ∧ Below W4.heap.size W4 w') (by kernel_rfl) (hKP.out _ (Below.refl _ _).drew) (fun hHeld => ?_)
        refine wpAnyH_take (i := 0) (oi := { dst := some 109, op := Op.move (Operand.tmp 1), type := 28, pos := "law.go:100", after := #[], guard := none }) (v := ?_) rfl (by kernel_rfl) (by kernel_rfl) (by kernel_rfl) (fun _ _ _ h => h) (Or.inl ⟨by kernel_rfl, ?_⟩) (by assumption) ?_
        rotate_left 1
        · intro w' hSw
          (try dsimp only at hSw)
          obtain ⟨z0, z1, z2, z3⟩ := hSw.1
          clear hSw
          go_simp
          all_goals (with_reducible rfl)
        try (conv => arg 8; simp only [Act.put, List.setIfInBounds_toArray, List.set_cons_zero, List.set_cons_succ])
        refine wpAnyH_take (i := 1) (oi := { dst := some 110, op := Op.move (Operand.tmp 17), type := 3, pos := "law.go:100", after := #[], guard := none }) (v := ?_) rfl (by kernel_rfl) (by kernel_rfl) (by kernel_rfl) (fun _ _ _ h => h) (Or.inl ⟨by kernel_rfl, ?_⟩) (by assumption) ?_
        rotate_left 1
        · intro w' hSw
          (try dsimp only at hSw)
          obtain ⟨z0, z1, z2, z3⟩ := hSw.1
          clear hSw
          go_simp
          all_goals (with_reducible rfl)
        try (conv => arg 8; simp only [Act.put, List.setIfInBounds_toArray, List.set_cons_zero, List.set_cons_succ])
        refine wpAnyH_take (i := 2) (oi := { dst := some 111, op := Op.indexAddr 28 (Operand.tmp 109) (Operand.tmp 110), type := 0, pos := "law.go:100", after := #[{ on := 0, ground := Ground.data }, { on := 1, ground := Ground.data }], guard := none }) (v := ?_) rfl (by kernel_rfl) (by kernel_rfl) (by kernel_rfl) (fun _ _ _ h => h) (Or.inl ⟨by kernel_rfl, ?_⟩) (by assumption) ?_
        rotate_left 1
        · intro w' hSw
          (try dsimp only at hSw)
          obtain ⟨z0, z1, z2, z3⟩ := hSw.1
          clear hSw
          go_simp
          all_goals (with_reducible rfl)
        try (conv => arg 8; simp only [Act.put, List.setIfInBounds_toArray, List.set_cons_zero, List.set_cons_succ])
        refine wpAnyH_take (i := 3) (oi := { dst := some 112, op := Op.load 50 (Operand.tmp 111), type := 50, pos := "law.go:100", after := #[{ on := 2, ground := Ground.data }], guard := none }) (v := ?_) rfl (by kernel_rfl) (by kernel_rfl) (by kernel_rfl) (fun _ _ _ h => h) (Or.inl ⟨by kernel_rfl, ?_⟩) (by assumption) ?_
        rotate_left 1
        · intro w' hSw
          (try dsimp only at hSw)
          obtain ⟨z0, z1, z2, z3⟩ := hSw.1
          clear hSw
          go_simp
          all_goals (with_reducible rfl)
        try (conv => arg 8; simp only [Act.put, List.setIfInBounds_toArray, List.set_cons_zero, List.set_cons_succ])
        refine wpAnyH_take (i := 4) (oi := { dst := some 113, op := Op.move (Operand.tmp 1), type := 28, pos := "law.go:100", after := #[{ on := 10, ground := Ground.gcOnly Departure.lateStores }], guard := none }) (v := ?_) rfl (by kernel_rfl) (by kernel_rfl) (by kernel_rfl) (fun _ _ _ h => h) (Or.inl ⟨by kernel_rfl, ?_⟩) (by assumption) ?_
        rotate_left 1
        · intro w' hSw
          (try dsimp only at hSw)
          obtain ⟨z0, z1, z2, z3⟩ := hSw.1
          clear hSw
          go_simp
          all_goals (with_reducible rfl)
        try (conv => arg 8; simp only [Act.put, List.setIfInBounds_toArray, List.set_cons_zero, List.set_cons_succ])
        refine wpAnyH_take (i := 5) (oi := { dst := some 114, op := Op.move (Operand.tmp 17), type := 3, pos := "law.go:100", after := #[{ on := 10, ground := Ground.gcOnly Departure.lateStores }], guard := none }) (v := ?_) rfl (by kernel_rfl) (by kernel_rfl) (by kernel_rfl) (fun _ _ _ h => h) (Or.inl ⟨by kernel_rfl, ?_⟩) (by assumption) ?_
        rotate_left 1
        · intro w' hSw
          (try dsimp only at hSw)
          obtain ⟨z0, z1, z2, z3⟩ := hSw.1
          clear hSw
          go_simp
          all_goals (with_reducible rfl)
        try (conv => arg 8; simp only [Act.put, List.setIfInBounds_toArray, List.set_cons_zero, List.set_cons_succ])
        refine wpAnyH_take (i := 6) (oi := { dst := some 115, op := Op.indexAddr 28 (Operand.tmp 113) (Operand.tmp 114), type := 0, pos := "law.go:100", after := #[{ on := 4, ground := Ground.data }, { on := 5, ground := Ground.data }, { on := 10, ground := Ground.gcOnly Departure.lateStores }], guard := none }) (v := ?_) rfl (by kernel_rfl) (by kernel_rfl) (by kernel_rfl) (fun _ _ _ h => h) (Or.inl ⟨by kernel_rfl, ?_⟩) (by assumption) ?_
        rotate_left 1
        · intro w' hSw
          (try dsimp only at hSw)
          obtain ⟨z0, z1, z2, z3⟩ := hSw.1
          clear hSw
          go_simp
          all_goals (with_reducible rfl)
        try (conv => arg 8; simp only [Act.put, List.setIfInBounds_toArray, List.set_cons_zero, List.set_cons_succ])
        refine wpAnyH_take (i := 7) (oi := { dst := some 116, op := Op.load 50 (Operand.tmp 115), type := 50, pos := "law.go:100", after := #[{ on := 6, ground := Ground.data }, { on := 10, ground := Ground.gcOnly Departure.lateStores }], guard := none }) (v := ?_) rfl (by kernel_rfl) (by kernel_rfl) (by kernel_rfl) (fun _ _ _ h => h) (Or.inl ⟨by kernel_rfl, ?_⟩) (by assumption) ?_
        rotate_left 1
        · intro w' hSw
          (try dsimp only at hSw)
          obtain ⟨z0, z1, z2, z3⟩ := hSw.1
          clear hSw
          go_simp
          all_goals (with_reducible rfl)
        try (conv => arg 8; simp only [Act.put, List.setIfInBounds_toArray, List.set_cons_zero, List.set_cons_succ])
        clear hHeld
        have hk : Below W4.heap.size W4 W4.drew := (Below.refl _ _).drew
        refine wpAnyH_ready (rs := [8,9]) (by kernel_rfl) (by simp) ?_
        refine AllReadyH.cons (o := { dst := some 20, op := Op.alloc 50, type := 0, pos := "law.go:100", after := #[], guard := none }) rfl (fun K hK => ?_) ?_
        · as_aux_lemma =>
          refine want (by kernel_rfl) ?_
          refine op_newP 20 rfl rfl ?_
          intro g8 y8 hT8 eg hb
          have hg8 : W4.heap.size ≤ g8 := by rw [eg]; exact hk.size
          clear eg
          replace hk := kf_step' hb hk
          clear hb
          refine hK.out _ _ (hKP.out _ hk) (fun hHeld => ?_)
          clear hK K
          try (conv => arg 8; simp only [Act.put, List.setIfInBounds_toArray, List.set_cons_zero, List.set_cons_succ])
          clear hHeld
          refine wpAnyH_ready (rs := [9]) (by kernel_rfl) (by simp) ?_
          refine AllReadyH.cons (o := { dst := some 21, op := Op.alloc 50, type := 0, pos := "law.go:100", after := #[], guard := none }) rfl (fun K hK => ?_) AllReadyH.nil
          refine want (by kernel_rfl) ?_
          refine op_newP 21 rfl rfl ?_
          intro g9 y9 hT9 eg hb
          have hg9 : W4.heap.size ≤ g9 := by rw [eg]; exact hk.size
          have hne : g8 ≠ g9 := by have := hT8.lt; omega
          replace hT8 := hT8.below hb
          clear eg
          replace hk := kf_step' hb hk
          clear hb
          refine hK.out _ _ (hKP.out _ hk) (fun hHeld => ?_)
          clear hK K
          try (conv => arg 8; simp only [Act.put, List.setIfInBounds_toArray, List.set_cons_zero, List.set_cons_succ])
          clear hHeld
          have hne' : g8 ≠ g9 := hne
          refine wpAnyH_ready (rs := [10]) (by kernel_rfl) (by simp) ?_
          refine AllReadyH.cons (o := { dst := none, op := Op.store 50 (Operand.tmp 20) (Operand.tmp 112), type := 0, pos := "law.go:100", after := #[{ on := 8, ground := Ground.data }, { on := 3, ground := Ground.data }, { on := 0, ground := Ground.phase }, { on := 1, ground := Ground.phase }, { on := 2, ground := Ground.phase }, { on := 3, ground := Ground.phase }, { on := 4, ground := Ground.textOnly Departure.lateStores }, { on := 5, ground := Ground.textOnly Departure.lateStores }, { on := 6, ground := Ground.textOnly Departure.lateStores }, { on := 7, ground := Ground.textOnly Departure.lateStores }, { on := 8, ground := Ground.phase }, { on := 9, ground := Ground.phase }], guard := none }) rfl (fun K hK => ?_) AllReadyH.nil
          refine want (by kernel_rfl) ?_
          refine op_storeP _ _ rfl rfl g8 _ ((x, z), Y, P) rfl rfl hT8 ?_
          intro wa ea
          have ea' := ea.out
          subst ea'
          replace hT9 := hT9.qfar hne' ((x, z), Y, P)
          replace hT8 := hT8.set ((x, z), Y, P)
          replace hk := qset_below hk hg8 ((x, z), Y, P)
          clear ea
          refine hK.out _ _ (hKP.out _ hk) (fun hHeld => ?_)
          clear hK K
          try (conv => arg 8; simp only [Act.put, List.setIfInBounds_toArray, List.set_cons_zero, List.set_cons_succ])
          clear hHeld
          refine wpAnyH_ready (rs := [11]) (by kernel_rfl) (by simp) ?_
          refine AllReadyH.cons (o := { dst := none, op := Op.store 50 (Operand.tmp 21) (Operand.tmp 116), type := 0, pos := "law.go:100", after := #[{ on := 9, ground := Ground.data }, { on := 7, ground := Ground.data }, { on := 10, ground := Ground.chain }, { on := 0, ground := Ground.phase }, { on := 1, ground := Ground.phase }, { on := 2, ground := Ground.phase }, { on := 3, ground := Ground.phase }, { on := 4, ground := Ground.phase }, { on := 5, ground := Ground.phase }, { on := 6, ground := Ground.phase }, { on := 7, ground := Ground.phase }, { on := 8, ground := Ground.phase }, { on := 9, ground := Ground.phase }, { on := 10, ground := Ground.phase }], guard := none }) rfl (fun K hK => ?_) AllReadyH.nil
          refine want (by kernel_rfl) ?_
          refine op_storeP _ _ rfl rfl g9 _ ((x, z), Y, P) rfl rfl hT9 ?_
          intro wb eb
          have eb' := eb.out
          subst eb'
          replace hT8 := hT8.qfar hne'.symm ((x, z), Y, P)
          replace hT9 := hT9.set ((x, z), Y, P)
          replace hk := qset_below hk hg9 ((x, z), Y, P)
          clear eb
          refine hK.out _ _ (hKP.out _ hk) (fun hHeld => ?_)
          clear hK K
          try (conv => arg 8; simp only [Act.put, List.setIfInBounds_toArray, List.set_cons_zero, List.set_cons_succ])
          clear hHeld
          refine wpAnyH_done (by kernel_rfl) ?_ _
          try simp only [Act.put, List.getElem_toArray, List.getElem_cons_succ, List.getElem_cons_zero, List.setIfInBounds_toArray, List.set_cons_zero, List.set_cons_succ]
          go_wp2_with fail
          go_meet
          case rel => exact ⟨g8, g9, rfl, rfl, hne', hg8, hg9, hT8, hT9, hk⟩
        refine AllReadyH.cons (o := { dst := some 21, op := Op.alloc 50, type := 0, pos := "law.go:100", after := #[], guard := none }) rfl (fun K hK => ?_) AllReadyH.nil
        refine want (by kernel_rfl) ?_
        refine op_newP 21 rfl rfl ?_
        intro g9 y9 hT9 eg hb
        have hg9 : W4.heap.size ≤ g9 := by rw [eg]; exact hk.size
        clear eg
        replace hk := kf_step' hb hk
        clear hb
        refine hK.out _ _ (hKP.out _ hk) (fun hHeld => ?_)
        clear hK K
        try (conv => arg 8; simp only [Act.put, List.setIfInBounds_toArray, List.set_cons_zero, List.set_cons_succ])
        clear hHeld
        refine wpAnyH_ready (rs := [8]) (by kernel_rfl) (by simp) ?_
        refine AllReadyH.cons (o := { dst := some 20, op := Op.alloc 50, type := 0, pos := "law.go:100", after := #[], guard := none }) rfl (fun K hK => ?_) AllReadyH.nil
        refine want (by kernel_rfl) ?_
        refine op_newP 20 rfl rfl ?_
        intro g8 y8 hT8 eg hb
        have hg8 : W4.heap.size ≤ g8 := by rw [eg]; exact hk.size
        have hne : g9 ≠ g8 := by have := hT9.lt; omega
        replace hT9 := hT9.below hb
        clear eg
        replace hk := kf_step' hb hk
        clear hb
        refine hK.out _ _ (hKP.out _ hk) (fun hHeld => ?_)
        clear hK K
        try (conv => arg 8; simp only [Act.put, List.setIfInBounds_toArray, List.set_cons_zero, List.set_cons_succ])
        clear hHeld
        have hne' : g8 ≠ g9 := hne.symm
        refine wpAnyH_ready (rs := [10]) (by kernel_rfl) (by simp) ?_
        refine AllReadyH.cons (o := { dst := none, op := Op.store 50 (Operand.tmp 20) (Operand.tmp 112), type := 0, pos := "law.go:100", after := #[{ on := 8, ground := Ground.data }, { on := 3, ground := Ground.data }, { on := 0, ground := Ground.phase }, { on := 1, ground := Ground.phase }, { on := 2, ground := Ground.phase }, { on := 3, ground := Ground.phase }, { on := 4, ground := Ground.textOnly Departure.lateStores }, { on := 5, ground := Ground.textOnly Departure.lateStores }, { on := 6, ground := Ground.textOnly Departure.lateStores }, { on := 7, ground := Ground.textOnly Departure.lateStores }, { on := 8, ground := Ground.phase }, { on := 9, ground := Ground.phase }], guard := none }) rfl (fun K hK => ?_) AllReadyH.nil
        refine want (by kernel_rfl) ?_
        refine op_storeP _ _ rfl rfl g8 _ ((x, z), Y, P) rfl rfl hT8 ?_
        intro wa ea
        have ea' := ea.out
        subst ea'
        replace hT9 := hT9.qfar hne' ((x, z), Y, P)
        replace hT8 := hT8.set ((x, z), Y, P)
        replace hk := qset_below hk hg8 ((x, z), Y, P)
        clear ea
        refine hK.out _ _ (hKP.out _ hk) (fun hHeld => ?_)
        clear hK K
        try (conv => arg 8; simp only [Act.put, List.setIfInBounds_toArray, List.set_cons_zero, List.set_cons_succ])
        clear hHeld
        refine wpAnyH_ready (rs := [11]) (by kernel_rfl) (by simp) ?_
        refine AllReadyH.cons (o := { dst := none, op := Op.store 50 (Operand.tmp 21) (Operand.tmp 116), type := 0, pos := "law.go:100", after := #[{ on := 9, ground := Ground.data }, { on := 7, ground := Ground.data }, { on := 10, ground := Ground.chain }, { on := 0, ground := Ground.phase }, { on := 1, ground := Ground.phase }, { on := 2, ground := Ground.phase }, { on := 3, ground := Ground.phase }, { on := 4, ground := Ground.phase }, { on := 5, ground := Ground.phase }, { on := 6, ground := Ground.phase }, { on := 7, ground := Ground.phase }, { on := 8, ground := Ground.phase }, { on := 9, ground := Ground.phase }, { on := 10, ground := Ground.phase }], guard := none }) rfl (fun K hK => ?_) AllReadyH.nil
        refine want (by kernel_rfl) ?_
        refine op_storeP _ _ rfl rfl g9 _ ((x, z), Y, P) rfl rfl hT9 ?_
        intro wb eb
        have eb' := eb.out
        subst eb'
        replace hT8 := hT8.qfar hne'.symm ((x, z), Y, P)
        replace hT9 := hT9.set ((x, z), Y, P)
        replace hk := qset_below hk hg9 ((x, z), Y, P)
        clear eb
        refine hK.out _ _ (hKP.out _ hk) (fun hHeld => ?_)
        clear hK K
        try (conv => arg 8; simp only [Act.put, List.setIfInBounds_toArray, List.set_cons_zero, List.set_cons_succ])
        clear hHeld
        refine wpAnyH_done (by kernel_rfl) ?_ _
        try simp only [Act.put, List.getElem_toArray, List.getElem_cons_succ, List.getElem_cons_zero, List.setIfInBounds_toArray, List.set_cons_zero, List.set_cons_succ]
        go_wp2_with fail
        go_meet
        case rel => exact ⟨g8, g9, rfl, rfl, hne', hg8, hg9, hT8, hT9, hk⟩
      case rest =>
        clear c0 c1 c2 c3
        obtain ⟨g, h, rfl, rfl, hne, hg, hh, hT1, hT2, hkc⟩ := hcut
        obtain ⟨V, hV⟩ : ∃ V, V = wc := ⟨_, rfl⟩
        rw [← hV] at hT1 hT2 hkc
        have hA1 := hT1.set1 (m := m)
        have hA2 := hT2.far (j := 1) (v := .int .i64 m) hne
        have hB2 := hA2.set0 (m := m)
        have hB1 := hA1.far (j := 0) (v := .int .i64 m) hne.symm
        have hkW := (hkc.setCell (p := ⟨g, 1, none⟩) hg (.int .i64 m)).setCell (p := ⟨h, 0, none⟩) hh (.int .i64 m)
        have x1 := hT1.1.2.1
        have x2 := hT1.2.2.1
        have x3 := hA2.1.1
        have x4 := hA2.2.1
        rw [hV] at x1 x2 x3 x4
        obtain ⟨W5, hW5⟩ : ∃ W5, W5 = (V.setCell ⟨g, 1, none⟩ (.int .i64 m)).setCell ⟨h, 0, none⟩ (.int .i64 m) := ⟨_, rfl⟩
        rw [← hW5] at hB1 hB2 hkW
        rw [hV] at hW5
        have HP5 := Lib.hid (HP4.out.kp hkW)
        have HI5 := Lib.hid (HI4.out.below hkW (Nat.le_refl _))
        have HK5 := Lib.hid (HK4.out.trans (hkW.mono HK4.out.size))
        have HCX := Lib.hid (show len ≤ cap ∧ k + 1 ≤ len ∧ k ≤ cap by omega)
        go_upto_region 19 with fail
        rw [← hW5]
        clear hW5 x1 x2 x3 x4 hA1 hA2 hT1 hT2 hkc hkW HP4 HI4 HK4 hV V
        go_cut [22] (fun s22 wx => LaidP W5 (L.take k ++ ((x, m), Y, P) :: ((m, z), Y, P) :: L.drop (k + 1)) (len + 1) s22 wx)
        case first =>
          have hKP : Hid (∀ w', Below W5.heap.size W5 w' → (w'.cell? ⟨g, 0, none⟩ = some (.int .i64 x) ∧ w'.cell? ⟨g, 1, none⟩ = some (.int .i64 m) ∧ w'.cell? ⟨g, 2, none⟩ = some (.int .i64 Y) ∧ w'.cell? ⟨g, 3, none⟩ = some (.int .i64 P) ∧ w'.cell? ⟨h, 0, none⟩ = some (.int .i64 m) ∧ w'.cell? ⟨h, 1, none⟩ = some (.int .i64 z) ∧ w'.cell? ⟨h, 2, none⟩ = some (.int .i64 Y) ∧ w'.cell? ⟨h, 3, none⟩ = some (.int .i64 P)) ∧ Below W5.heap.size W5 w') := Lib.hid (fun w' hw => by
            obtain ⟨a0, a1, a2, a3⟩ := hB1.1.kp hw
            obtain ⟨b0, b1, b2, b3⟩ := hB2.1.kp hw
            exact ⟨⟨a0, a1, a2, a3, b0, b1, b2, b3⟩, hw⟩)
          clear hB1 hB2
          obtain ⟨hc1, hc2, hc3⟩ := HCX.out
          have j1 : (k : Int) ≤ (cap : Int) := by omega
          have j2 : (k : Int) + 1 ≤ (len : Int) := by omega
          have j3 : (len : Int) ≤ (cap : Int) := by omega
          have j4 : (0 : Int) ≤ (k : Int) + 1 := by omega
          have j5 : IntKind.i64.wrap ((k : Int) + 1) = (k : Int) + 1 := IntWalk.i64_in _ (by omega)
          have j6 : ((k : Int) + 1).toNat = k + 1 := by omega
          refine wp_region_held_drew (S := fun w' => (w'.cell? ⟨g, 0, none⟩ = some (.int .i64 x) ∧ w'.cell? ⟨g, 1, none⟩ = some (.int .i64 m) ∧ w'.cell? ⟨g, 2, none⟩ = some (.int .i64 Y) ∧ w'.cell? ⟨g, 3, none⟩ = some (.int .i64 P) ∧ w'.cell? ⟨h, 0, none⟩ = some (.int .i64 m) ∧ w'.cell? ⟨h, 1, none⟩ = some (.int .i64 z) ∧ w'.cell? ⟨h, 2, none⟩ = some (.int .i64 Y) ∧ w'.cell? ⟨h, 3, none⟩ = some (.int .i64 P)) ∧ Below W5.heap.size W5 w') (by kernel_rfl) (hKP.out _ (Below.refl _ _).drew) (fun hHeld => ?_)
          refine wpAnyH_take (i := 1) (oi := { dst := some 124, op := Op.move (Operand.tmp 1), type := 28, pos := "law.go:102", after := #[], guard := none }) (v := ?_) rfl (by kernel_rfl) (by kernel_rfl) (by kernel_rfl) (fun _ _ _ h => h) (Or.inl ⟨by kernel_rfl, ?_⟩) (by assumption) ?_
          rotate_left 1
          · intro w' hSw
            (try dsimp only at hSw)
            obtain ⟨z0, z1, z2, z3, z4, z5, z6, z7⟩ := hSw.1
            clear hSw
            go_simp
            all_goals (with_reducible rfl)
          try (conv => arg 8; simp only [Act.put, List.setIfInBounds_toArray, List.set_cons_zero, List.set_cons_succ])
          refine wpAnyH_take (i := 2) (oi := { dst := some 125, op := Op.move (Operand.tmp 17), type := 3, pos := "law.go:102", after := #[], guard := none }) (v := ?_) rfl (by kernel_rfl) (by kernel_rfl) (by kernel_rfl) (fun _ _ _ h => h) (Or.inl ⟨by kernel_rfl, ?_⟩) (by assumption) ?_
          rotate_left 1
          · intro w' hSw
            (try dsimp only at hSw)
            obtain ⟨z0, z1, z2, z3, z4, z5, z6, z7⟩ := hSw.1
            clear hSw
            go_simp
            all_goals (with_reducible rfl)
          try (conv => arg 8; simp only [Act.put, List.setIfInBounds_toArray, List.set_cons_zero, List.set_cons_succ])
          refine wpAnyH_take (i := 3) (oi := { dst := some 126, op := Op.slice 28 (Operand.tmp 124) none (some (Operand.tmp 125)) none, type := 28, pos := "law.go:102", after := #[{ on := 1, ground := Ground.data }, { on := 2, ground := Ground.data }], guard := none }) (v := ?_) rfl (by kernel_rfl) (by kernel_rfl) (by kernel_rfl) (fun _ _ _ h => h) (Or.inl ⟨by kernel_rfl, ?_⟩) (by assumption) ?_
          rotate_left 1
          · intro w' hSw
            (try dsimp only at hSw)
            obtain ⟨z0, z1, z2, z3, z4, z5, z6, z7⟩ := hSw.1
            clear hSw
            go_simp
            all_goals (with_reducible rfl)
          try (conv => arg 8; simp only [Act.put, List.setIfInBounds_toArray, List.set_cons_zero, List.set_cons_succ])
          refine wpAnyH_take (i := 5) (oi := { dst := some 128, op := Op.load 50 (Operand.tmp 20), type := 50, pos := "law.go:102", after := #[], guard := none }) (v := ?_) rfl (by kernel_rfl) (by kernel_rfl) (by kernel_rfl) (fun _ _ _ h => h) (Or.inl ⟨by kernel_rfl, ?_⟩) (by assumption) ?_
          rotate_left 1
          · intro w' hSw
            (try dsimp only at hSw)
            obtain ⟨z0, z1, z2, z3, z4, z5, z6, z7⟩ := hSw.1
            clear hSw
            go_simp
            all_goals (with_reducible rfl)
          try (conv => arg 8; simp only [Act.put, List.setIfInBounds_toArray, List.set_cons_zero, List.set_cons_succ])
          refine wpAnyH_take (i := 6) (oi := { dst := some 129, op := Op.load 50 (Operand.tmp 21), type := 50, pos := "law.go:102", after := #[], guard := none }) (v := ?_) rfl (by kernel_rfl) (by kernel_rfl) (by kernel_rfl) (fun _ _ _ h => h) (Or.inl ⟨by kernel_rfl, ?_⟩) (by assumption) ?_
          rotate_left 1
          · intro w' hSw
            (try dsimp only at hSw)
            obtain ⟨z0, z1, z2, z3, z4, z5, z6, z7⟩ := hSw.1
            clear hSw
            go_simp
            all_goals (with_reducible rfl)
          try (conv => arg 8; simp only [Act.put, List.setIfInBounds_toArray, List.set_cons_zero, List.set_cons_succ])
          refine wpAnyH_take (i := 9) (oi := { dst := some 132, op := Op.move (Operand.tmp 1), type := 28, pos := "law.go:102", after := #[], guard := none }) (v := ?_) rfl (by kernel_rfl) (by kernel_rfl) (by kernel_rfl) (fun _ _ _ h => h) (Or.inl ⟨by kernel_rfl, ?_⟩) (by assumption) ?_
          rotate_left 1
          · intro w' hSw
            (try dsimp only at hSw)
            obtain ⟨z0, z1, z2, z3, z4, z5, z6, z7⟩ := hSw.1
            clear hSw
            go_simp
            all_goals (with_reducible rfl)
          try (conv => arg 8; simp only [Act.put, List.setIfInBounds_toArray, List.set_cons_zero, List.set_cons_succ])
          refine wpAnyH_take (i := 10) (oi := { dst := some 133, op := Op.move (Operand.tmp 17), type := 3, pos := "law.go:102", after := #[], guard := none }) (v := ?_) rfl (by kernel_rfl) (by kernel_rfl) (by kernel_rfl) (fun _ _ _ h => h) (Or.inl ⟨by kernel_rfl, ?_⟩) (by assumption) ?_
          rotate_left 1
          · intro w' hSw
            (try dsimp only at hSw)
            obtain ⟨z0, z1, z2, z3, z4, z5, z6, z7⟩ := hSw.1
            clear hSw
            go_simp
            all_goals (with_reducible rfl)
          try (conv => arg 8; simp only [Act.put, List.setIfInBounds_toArray, List.set_cons_zero, List.set_cons_succ])
          refine wpAnyH_take (i := 11) (oi := { dst := some 134, op := Op.binOp BinOp.add 3 (Operand.tmp 133) (Operand.const (Value.int IntKind.i64 1)) 3, type := 3, pos := "law.go:102", after := #[{ on := 10, ground := Ground.data }], guard := none }) (v := ?_) rfl (by kernel_rfl) (by kernel_rfl) (by kernel_rfl) (fun _ _ _ h => h) (Or.inl ⟨by kernel_rfl, ?_⟩) (by assumption) ?_
          rotate_left 1
          · intro w' hSw
            (try dsimp only at hSw)
            obtain ⟨z0, z1, z2, z3, z4, z5, z6, z7⟩ := hSw.1
            clear hSw
            go_simp
            all_goals (with_reducible rfl)
          try (conv => arg 8; simp only [Act.put, List.setIfInBounds_toArray, List.set_cons_zero, List.set_cons_succ])
          refine wpAnyH_take (i := 12) (oi := { dst := some 135, op := Op.slice 28 (Operand.tmp 132) (some (Operand.tmp 134)) none none, type := 28, pos := "law.go:102", after := #[{ on := 9, ground := Ground.data }, { on := 11, ground := Ground.data }], guard := none }) (v := ?_) rfl (by kernel_rfl) (by kernel_rfl) (by kernel_rfl) (fun _ _ _ h => h) (Or.inl ⟨by kernel_rfl, ?_⟩) (by assumption) ?_
          rotate_left 1
          · intro w' hSw
            (try dsimp only at hSw)
            obtain ⟨z0, z1, z2, z3, z4, z5, z6, z7⟩ := hSw.1
            clear hSw
            go_simp
            all_goals (with_reducible rfl)
          try (conv => arg 8; simp only [Act.put, List.setIfInBounds_toArray, List.set_cons_zero, List.set_cons_succ])
          have HDr : Hid (∀ w', Below W5.heap.size W5 w' → PcsIn w' (if cap = k + 1 then some ⟨bl, o, none⟩ else some ⟨bl, o + (k + 1) * 4, none⟩) (L.drop (k + 1))) := Lib.hid (fun w' hw => (HI5.out.below hw (Nat.le_refl _)).dropIf (k + 1) (by rw [HLn.out]; omega))
          generalize (if cap = k + 1 then (some ⟨bl, o, none⟩ : Option Addr) else some ⟨bl, o + (k + 1) * 4, none⟩) = pA at *
          clear hHeld
          have hk : Below W5.heap.size W5 W5.drew := (Below.refl _ _).drew
          refine wpAnyH_ready (rs := [0,7]) (by kernel_rfl) (by simp) ?_
          refine AllReadyH.cons (o := { dst := some 123, op := Op.buildSlice 28 0 #[], type := 28, pos := "law.go:102", after := #[], guard := none }) rfl (fun K hK => ?_) ?_
          · as_aux_lemma =>
            refine want (by kernel_rfl) ?_
            refine op_bs0 123 rfl rfl W5.heap.size hk.size ?_
            intro v y0 hO' hv hb
            clear hv
            replace hk := kf_step' hb hk
            clear hb
            have hO := hO'
            clear hO'
            refine hK.out _ _ (hKP.out _ hk) (fun hHeld => ?_)
            clear hK K
            try (conv => arg 8; simp only [Act.put, List.setIfInBounds_toArray, List.set_cons_zero, List.set_cons_succ])
            clear hHeld
            refine wpAnyH_ready (rs := [4,7]) (by kernel_rfl) (by simp) ?_
            refine AllReadyH.cons (o := { dst := some 127, op := Op.call { callee := Callee.builtin Builtin.append, args := #[Operand.tmp 123, Operand.tmp 126], argTypes := #[28, 28] }, type := 28, pos := "law.go:102", after := #[{ on := 0, ground := Ground.data }, { on := 3, ground := Ground.data }], guard := none }) rfl (fun K hK => ?_) ?_
            · as_aux_lemma =>
              refine want (by kernel_rfl) ?_
              refine op_app (T := 28) (E := 50) (by kernel_rfl) infP 127 _ _ rfl rfl W5.heap.size v 0 [] rfl hO (some ⟨bl, o, none⟩) k cap (L.take k) rfl (by rw [List.length_take, HLn.out]; omega) ((HI5.out.below hk (Nat.le_refl _)).take k) (by omega) hk.size ?_
              intro v2 y1 hO2 hgr hat
              replace hk := kf_grown hgr hk hO
              clear hgr hat hO
              rw [List.nil_append, Nat.zero_add] at hO2
              refine hK.out _ _ (hKP.out _ hk) (fun hHeld => ?_)
              clear hK K
              try (conv => arg 8; simp only [Act.put, List.setIfInBounds_toArray, List.set_cons_zero, List.set_cons_succ])
              clear hHeld
              refine wpAnyH_ready (rs := [7]) (by kernel_rfl) (by simp) ?_
              refine AllReadyH.cons (o := { dst := some 130, op := Op.buildSlice 28 2 #[(0, Operand.tmp 128), (1, Operand.tmp 129)], type := 28, pos := "law.go:102", after := #[{ on := 5, ground := Ground.data }, { on := 6, ground := Ground.data }], guard := none }) rfl (fun K hK => ?_) AllReadyH.nil
              refine want (by kernel_rfl) ?_
              refine op_bs2 130 _ _ ((x, m), Y, P) ((m, z), Y, P) rfl rfl rfl rfl ?_
              intro gt y2 hT' et hb
              have hne2 := own_lt hO2 (g := gt) (by omega)
              clear et
              replace hO2 := own_below hO2 hb
              replace hk := kf_step' hb hk
              clear hb
              have hT := hT'
              clear hT'
              refine hK.out _ _ (hKP.out _ hk) (fun hHeld => ?_)
              clear hK K
              try (conv => arg 8; simp only [Act.put, List.setIfInBounds_toArray, List.set_cons_zero, List.set_cons_succ])
              clear hHeld
              refine wpAnyH_ready (rs := [8]) (by kernel_rfl) (by simp) ?_
              refine AllReadyH.cons (o := { dst := some 131, op := Op.call { callee := Callee.builtin Builtin.append, args := #[Operand.tmp 127, Operand.tmp 130], argTypes := #[28, 28] }, type := 28, pos := "law.go:102", after := #[{ on := 4, ground := Ground.data }, { on := 7, ground := Ground.data }, { on := 4, ground := Ground.chain }], guard := none }) rfl (fun K hK => ?_) AllReadyH.nil
              refine want (by kernel_rfl) ?_
              refine op_app (T := 28) (E := 50) (by kernel_rfl) infP 131 _ _ rfl rfl W5.heap.size v2 k (L.take k) rfl hO2 (some ⟨gt, 0, none⟩) 2 2 [((x, m), Y, P), ((m, z), Y, P)] rfl rfl (TwoP.pcs hT) (by omega) hk.size ?_
              intro v3 y3 hO3 hgr hat
              replace hk := kf_grown hgr hk hO2
              clear hgr hat hO2 hT hne2
              refine hK.out _ _ (hKP.out _ hk) (fun hHeld => ?_)
              clear hK K
              try (conv => arg 8; simp only [Act.put, List.setIfInBounds_toArray, List.set_cons_zero, List.set_cons_succ])
              clear hHeld
              refine wpAnyH_ready (rs := [13]) (by kernel_rfl) (by simp) ?_
              refine AllReadyH.cons (o := { dst := some 136, op := Op.call { callee := Callee.builtin Builtin.append, args := #[Operand.tmp 131, Operand.tmp 135], argTypes := #[28, 28] }, type := 28, pos := "law.go:102", after := #[{ on := 8, ground := Ground.data }, { on := 12, ground := Ground.data }, { on := 8, ground := Ground.chain }], guard := none }) rfl (fun K hK => ?_) AllReadyH.nil
              refine want (by kernel_rfl) ?_
              refine op_app (T := 28) (E := 50) (by kernel_rfl) infP 136 _ _ rfl rfl W5.heap.size v3 (k + 2) (L.take k ++ [((x, m), Y, P), ((m, z), Y, P)]) rfl hO3 pA (len - (k + 1)) (cap - (k + 1)) (L.drop (k + 1)) rfl (by rw [List.length_drop, HLn.out]) (HDr.out _ hk) (by omega) hk.size ?_
              intro v4 y4 hO4 hgr hat
              replace hk := kf_grown hgr hk hO3
              clear hgr hat hO3
              rw [show k + 2 + (len - (k + 1)) = len + 1 by omega, List.append_assoc] at hO4
              obtain ⟨q4, cr, rfl⟩ := own_slice hO4
              have hpc4 := pcs_own hO4 (by simp only [List.length_append, List.length_take, List.length_drop, List.length_cons, List.length_nil, HLn.out]; omega)
              clear hO4
              refine hK.out _ _ (hKP.out _ hk) (fun hHeld => ?_)
              clear hK K
              try (conv => arg 8; simp only [Act.put, List.setIfInBounds_toArray, List.set_cons_zero, List.set_cons_succ])
              refine wpAnyH_take (i := 14) (oi := { dst := some 22, op := Op.assign (Operand.tmp 136), type := 28, pos := "law.go:102", after := #[{ on := 13, ground := Ground.data }, { on := 13, ground := Ground.chain }, { on := 0, ground := Ground.phase }, { on := 1, ground := Ground.phase }, { on := 2, ground := Ground.phase }, { on := 3, ground := Ground.phase }, { on := 4, ground := Ground.phase }, { on := 5, ground := Ground.phase }, { on := 6, ground := Ground.phase }, { on := 7, ground := Ground.phase }, { on := 8, ground := Ground.phase }, { on := 9, ground := Ground.phase }, { on := 10, ground := Ground.phase }, { on := 11, ground := Ground.phase }, { on := 12, ground := Ground.phase }, { on := 13, ground := Ground.phase }], guard := none }) (v := ?_) rfl (by kernel_rfl) (by kernel_rfl) (by kernel_rfl) (fun _ _ _ h => h) (Or.inl ⟨by kernel_rfl, ?_⟩) (by assumption) ?_
              rotate_left 1
              · intro w' hSw
                (try dsimp only at hSw)
                obtain ⟨z0, z1, z2, z3, z4, z5, z6, z7⟩ := hSw.1
                clear hSw
                go_simp
                all_goals (with_reducible rfl)
              try (conv => arg 8; simp only [Act.put, List.setIfInBounds_toArray, List.set_cons_zero, List.set_cons_succ])
              refine wpAnyH_done (by kernel_rfl) ?_ _
              try simp only [Act.put, List.getElem_toArray, List.getElem_cons_succ, List.getElem_cons_zero, List.setIfInBounds_toArray, List.set_cons_zero, List.set_cons_succ]
              go_wp2_with fail
              go_meet
              case rel => exact ⟨q4, cr, rfl, hpc4, hk⟩
            refine AllReadyH.cons (o := { dst := some 130, op := Op.buildSlice 28 2 #[(0, Operand.tmp 128), (1, Operand.tmp 129)], type := 28, pos := "law.go:102", after := #[{ on := 5, ground := Ground.data }, { on := 6, ground := Ground.data }], guard := none }) rfl (fun K hK => ?_) AllReadyH.nil
            refine want (by kernel_rfl) ?_
            refine op_bs2 130 _ _ ((x, m), Y, P) ((m, z), Y, P) rfl rfl rfl rfl ?_
            intro gt y1 hT' et hb
            have hne3 := own_lt hO (g := gt) (by omega)
            clear et
            replace hO := own_below hO hb
            replace hk := kf_step' hb hk
            clear hb
            have hT := hT'
            clear hT'
            refine hK.out _ _ (hKP.out _ hk) (fun hHeld => ?_)
            clear hK K
            try (conv => arg 8; simp only [Act.put, List.setIfInBounds_toArray, List.set_cons_zero, List.set_cons_succ])
            clear hHeld
            refine wpAnyH_ready (rs := [4]) (by kernel_rfl) (by simp) ?_
            refine AllReadyH.cons (o := { dst := some 127, op := Op.call { callee := Callee.builtin Builtin.append, args := #[Operand.tmp 123, Operand.tmp 126], argTypes := #[28, 28] }, type := 28, pos := "law.go:102", after := #[{ on := 0, ground := Ground.data }, { on := 3, ground := Ground.data }], guard := none }) rfl (fun K hK => ?_) AllReadyH.nil
            refine want (by kernel_rfl) ?_
            refine op_app (T := 28) (E := 50) (by kernel_rfl) infP 127 _ _ rfl rfl W5.heap.size v 0 [] rfl hO (some ⟨bl, o, none⟩) k cap (L.take k) rfl (by rw [List.length_take, HLn.out]; omega) ((HI5.out.below hk (Nat.le_refl _)).take k) (by omega) hk.size ?_
            intro v2 y2 hO2 hgr hat
            have hne2 := ne_app hne3 (lt_of_at hT) hat
            replace hT := TwoP.grown hT hgr hne3
            clear hne3
            replace hk := kf_grown hgr hk hO
            clear hgr hat hO
            rw [List.nil_append, Nat.zero_add] at hO2
            refine hK.out _ _ (hKP.out _ hk) (fun hHeld => ?_)
            clear hK K
            try (conv => arg 8; simp only [Act.put, List.setIfInBounds_toArray, List.set_cons_zero, List.set_cons_succ])
            clear hHeld
            refine wpAnyH_ready (rs := [8]) (by kernel_rfl) (by simp) ?_
            refine AllReadyH.cons (o := { dst := some 131, op := Op.call { callee := Callee.builtin Builtin.append, args := #[Operand.tmp 127, Operand.tmp 130], argTypes := #[28, 28] }, type := 28, pos := "law.go:102", after := #[{ on := 4, ground := Ground.data }, { on := 7, ground := Ground.data }, { on := 4, ground := Ground.chain }], guard := none }) rfl (fun K hK => ?_) AllReadyH.nil
            refine want (by kernel_rfl) ?_
            refine op_app (T := 28) (E := 50) (by kernel_rfl) infP 131 _ _ rfl rfl W5.heap.size v2 k (L.take k) rfl hO2 (some ⟨gt, 0, none⟩) 2 2 [((x, m), Y, P), ((m, z), Y, P)] rfl rfl (TwoP.pcs hT) (by omega) hk.size ?_
            intro v3 y3 hO3 hgr hat
            replace hk := kf_grown hgr hk hO2
            clear hgr hat hO2 hT hne2
            refine hK.out _ _ (hKP.out _ hk) (fun hHeld => ?_)
            clear hK K
            try (conv => arg 8; simp only [Act.put, List.setIfInBounds_toArray, List.set_cons_zero, List.set_cons_succ])
            clear hHeld
            refine wpAnyH_ready (rs := [13]) (by kernel_rfl) (by simp) ?_
            refine AllReadyH.cons (o := { dst := some 136, op := Op.call { callee := Callee.builtin Builtin.append, args := #[Operand.tmp 131, Operand.tmp 135], argTypes := #[28, 28] }, type := 28, pos := "law.go:102", after := #[{ on := 8, ground := Ground.data }, { on := 12, ground := Ground.data }, { on := 8, ground := Ground.chain }], guard := none }) rfl (fun K hK => ?_) AllReadyH.nil
            refine want (by kernel_rfl) ?_
            refine op_app (T := 28) (E := 50) (by kernel_rfl) infP 136 _ _ rfl rfl W5.heap.size v3 (k + 2) (L.take k ++ [((x, m), Y, P), ((m, z), Y, P)]) rfl hO3 pA (len - (k + 1)) (cap - (k + 1)) (L.drop (k + 1)) rfl (by rw [List.length_drop, HLn.out]) (HDr.out _ hk) (by omega) hk.size ?_
            intro v4 y4 hO4 hgr hat
            replace hk := kf_grown hgr hk hO3
            clear hgr hat hO3
            rw [show k + 2 + (len - (k + 1)) = len + 1 by omega, List.append_assoc] at hO4
            obtain ⟨q4, cr, rfl⟩ := own_slice hO4
            have hpc4 := pcs_own hO4 (by simp only [List.length_append, List.length_take, List.length_drop, List.length_cons, List.length_nil, HLn.out]; omega)
            clear hO4
            refine hK.out _ _ (hKP.out _ hk) (fun hHeld => ?_)
            clear hK K
            try (conv => arg 8; simp only [Act.put, List.setIfInBounds_toArray, List.set_cons_zero, List.set_cons_succ])
            refine wpAnyH_take (i := 14) (oi := { dst := some 22, op := Op.assign (Operand.tmp 136), type := 28, pos := "law.go:102", after := #[{ on := 13, ground := Ground.data }, { on := 13, ground := Ground.chain }, { on := 0, ground := Ground.phase }, { on := 1, ground := Ground.phase }, { on := 2, ground := Ground.phase }, { on := 3, ground := Ground.phase }, { on := 4, ground := Ground.phase }, { on := 5, ground := Ground.phase }, { on := 6, ground := Ground.phase }, { on := 7, ground := Ground.phase }, { on := 8, ground := Ground.phase }, { on := 9, ground := Ground.phase }, { on := 10, ground := Ground.phase }, { on := 11, ground := Ground.phase }, { on := 12, ground := Ground.phase }, { on := 13, ground := Ground.phase }], guard := none }) (v := ?_) rfl (by kernel_rfl) (by kernel_rfl) (by kernel_rfl) (fun _ _ _ h => h) (Or.inl ⟨by kernel_rfl, ?_⟩) (by assumption) ?_
            rotate_left 1
            · intro w' hSw
              (try dsimp only at hSw)
              obtain ⟨z0, z1, z2, z3, z4, z5, z6, z7⟩ := hSw.1
              clear hSw
              go_simp
              all_goals (with_reducible rfl)
            try (conv => arg 8; simp only [Act.put, List.setIfInBounds_toArray, List.set_cons_zero, List.set_cons_succ])
            refine wpAnyH_done (by kernel_rfl) ?_ _
            try simp only [Act.put, List.getElem_toArray, List.getElem_cons_succ, List.getElem_cons_zero, List.setIfInBounds_toArray, List.set_cons_zero, List.set_cons_succ]
            go_wp2_with fail
            go_meet
            case rel => exact ⟨q4, cr, rfl, hpc4, hk⟩
          refine AllReadyH.cons (o := { dst := some 130, op := Op.buildSlice 28 2 #[(0, Operand.tmp 128), (1, Operand.tmp 129)], type := 28, pos := "law.go:102", after := #[{ on := 5, ground := Ground.data }, { on := 6, ground := Ground.data }], guard := none }) rfl (fun K hK => ?_) AllReadyH.nil
          refine want (by kernel_rfl) ?_
          refine op_bs2 130 _ _ ((x, m), Y, P) ((m, z), Y, P) rfl rfl rfl rfl ?_
          intro gt y0 hT' et hb
          clear et
          replace hk := kf_step' hb hk
          clear hb
          have hT := hT'
          clear hT'
          refine hK.out _ _ (hKP.out _ hk) (fun hHeld => ?_)
          clear hK K
          try (conv => arg 8; simp only [Act.put, List.setIfInBounds_toArray, List.set_cons_zero, List.set_cons_succ])
          clear hHeld
          refine wpAnyH_ready (rs := [0]) (by kernel_rfl) (by simp) ?_
          refine AllReadyH.cons (o := { dst := some 123, op := Op.buildSlice 28 0 #[], type := 28, pos := "law.go:102", after := #[], guard := none }) rfl (fun K hK => ?_) AllReadyH.nil
          refine want (by kernel_rfl) ?_
          refine op_bs0 123 rfl rfl W5.heap.size hk.size ?_
          intro v y1 hO' hv hb
          have hne3 := ne_new (lt_of_at hT) hv
          clear hv
          replace hT := TwoP.below hT hb
          replace hk := kf_step' hb hk
          clear hb
          have hO := hO'
          clear hO'
          refine hK.out _ _ (hKP.out _ hk) (fun hHeld => ?_)
          clear hK K
          try (conv => arg 8; simp only [Act.put, List.setIfInBounds_toArray, List.set_cons_zero, List.set_cons_succ])
          clear hHeld
          refine wpAnyH_ready (rs := [4]) (by kernel_rfl) (by simp) ?_
          refine AllReadyH.cons (o := { dst := some 127, op := Op.call { callee := Callee.builtin Builtin.append, args := #[Operand.tmp 123, Operand.tmp 126], argTypes := #[28, 28] }, type := 28, pos := "law.go:102", after := #[{ on := 0, ground := Ground.data }, { on := 3, ground := Ground.data }], guard := none }) rfl (fun K hK => ?_) AllReadyH.nil
          refine want (by kernel_rfl) ?_
          refine op_app (T := 28) (E := 50) (by kernel_rfl) infP 127 _ _ rfl rfl W5.heap.size v 0 [] rfl hO (some ⟨bl, o, none⟩) k cap (L.take k) rfl (by rw [List.length_take, HLn.out]; omega) ((HI5.out.below hk (Nat.le_refl _)).take k) (by omega) hk.size ?_
          intro v2 y2 hO2 hgr hat
          have hne2 := ne_app hne3 (lt_of_at hT) hat
          replace hT := TwoP.grown hT hgr hne3
          clear hne3
          replace hk := kf_grown hgr hk hO
          clear hgr hat hO
          rw [List.nil_append, Nat.zero_add] at hO2
          refine hK.out _ _ (hKP.out _ hk) (fun hHeld => ?_)
          clear hK K
          try (conv => arg 8; simp only [Act.put, List.setIfInBounds_toArray, List.set_cons_zero, List.set_cons_succ])
          clear hHeld
          refine wpAnyH_ready (rs := [8]) (by kernel_rfl) (by simp) ?_
          refine AllReadyH.cons (o := { dst := some 131, op := Op.call { callee := Callee.builtin Builtin.append, args := #[Operand.tmp 127, Operand.tmp 130], argTypes := #[28, 28] }, type := 28, pos := "law.go:102", after := #[{ on := 4, ground := Ground.data }, { on := 7, ground := Ground.data }, { on := 4, ground := Ground.chain }], guard := none }) rfl (fun K hK => ?_) AllReadyH.nil
          refine want (by kernel_rfl) ?_
          refine op_app (T := 28) (E := 50) (by kernel_rfl) infP 131 _ _ rfl rfl W5.heap.size v2 k (L.take k) rfl hO2 (some ⟨gt, 0, none⟩) 2 2 [((x, m), Y, P), ((m, z), Y, P)] rfl rfl (TwoP.pcs hT) (by omega) hk.size ?_
          intro v3 y3 hO3 hgr hat
          replace hk := kf_grown hgr hk hO2
          clear hgr hat hO2 hT hne2
          refine hK.out _ _ (hKP.out _ hk) (fun hHeld => ?_)
          clear hK K
          try (conv => arg 8; simp only [Act.put, List.setIfInBounds_toArray, List.set_cons_zero, List.set_cons_succ])
          clear hHeld
          refine wpAnyH_ready (rs := [13]) (by kernel_rfl) (by simp) ?_
          refine AllReadyH.cons (o := { dst := some 136, op := Op.call { callee := Callee.builtin Builtin.append, args := #[Operand.tmp 131, Operand.tmp 135], argTypes := #[28, 28] }, type := 28, pos := "law.go:102", after := #[{ on := 8, ground := Ground.data }, { on := 12, ground := Ground.data }, { on := 8, ground := Ground.chain }], guard := none }) rfl (fun K hK => ?_) AllReadyH.nil
          refine want (by kernel_rfl) ?_
          refine op_app (T := 28) (E := 50) (by kernel_rfl) infP 136 _ _ rfl rfl W5.heap.size v3 (k + 2) (L.take k ++ [((x, m), Y, P), ((m, z), Y, P)]) rfl hO3 pA (len - (k + 1)) (cap - (k + 1)) (L.drop (k + 1)) rfl (by rw [List.length_drop, HLn.out]) (HDr.out _ hk) (by omega) hk.size ?_
          intro v4 y4 hO4 hgr hat
          replace hk := kf_grown hgr hk hO3
          clear hgr hat hO3
          rw [show k + 2 + (len - (k + 1)) = len + 1 by omega, List.append_assoc] at hO4
          obtain ⟨q4, cr, rfl⟩ := own_slice hO4
          have hpc4 := pcs_own hO4 (by simp only [List.length_append, List.length_take, List.length_drop, List.length_cons, List.length_nil, HLn.out]; omega)
          clear hO4
          refine hK.out _ _ (hKP.out _ hk) (fun hHeld => ?_)
          clear hK K
          try (conv => arg 8; simp only [Act.put, List.setIfInBounds_toArray, List.set_cons_zero, List.set_cons_succ])
          refine wpAnyH_take (i := 14) (oi := { dst := some 22, op := Op.assign (Operand.tmp 136), type := 28, pos := "law.go:102", after := #[{ on := 13, ground := Ground.data }, { on := 13, ground := Ground.chain }, { on := 0, ground := Ground.phase }, { on := 1, ground := Ground.phase }, { on := 2, ground := Ground.phase }, { on := 3, ground := Ground.phase }, { on := 4, ground := Ground.phase }, { on := 5, ground := Ground.phase }, { on := 6, ground := Ground.phase }, { on := 7, ground := Ground.phase }, { on := 8, ground := Ground.phase }, { on := 9, ground := Ground.phase }, { on := 10, ground := Ground.phase }, { on := 11, ground := Ground.phase }, { on := 12, ground := Ground.phase }, { on := 13, ground := Ground.phase }], guard := none }) (v := ?_) rfl (by kernel_rfl) (by kernel_rfl) (by kernel_rfl) (fun _ _ _ h => h) (Or.inl ⟨by kernel_rfl, ?_⟩) (by assumption) ?_
          rotate_left 1
          · intro w' hSw
            (try dsimp only at hSw)
            obtain ⟨z0, z1, z2, z3, z4, z5, z6, z7⟩ := hSw.1
            clear hSw
            go_simp
            all_goals (with_reducible rfl)
          try (conv => arg 8; simp only [Act.put, List.setIfInBounds_toArray, List.set_cons_zero, List.set_cons_succ])
          refine wpAnyH_done (by kernel_rfl) ?_ _
          try simp only [Act.put, List.getElem_toArray, List.getElem_cons_succ, List.getElem_cons_zero, List.setIfInBounds_toArray, List.set_cons_zero, List.set_cons_succ]
          go_wp2_with fail
          go_meet
          case rel => exact ⟨q4, cr, rfl, hpc4, hk⟩
        case rest =>
          obtain ⟨q5, c5, rfl, hpc5, hk6⟩ := hcut
          have hkF := HK5.out.trans (hk6.mono HK5.out.size)
          obtain ⟨ix, im, iz⟩ := HX.out
          have hS3 := Salary_any py pd a b i n q5 (len + 1) c5 (L.take k ++ ((x, m), Y, P) :: ((m, z), Y, P) :: L.drop (k + 1)) wc ha hb hi (by simp only [List.length_append, List.length_take, List.length_drop, List.length_cons, HLn.out]; omega) (by omega) (fun q hq => by
            rcases List.mem_append.1 hq with hq | hq
            · exact ⟨(H64.out q (List.mem_of_mem_take hq)).1, (H64.out q (List.mem_of_mem_take hq)).2.1⟩
            · rcases List.mem_cons.1 hq with rfl | hq
              · exact ⟨ix, im⟩
              · rcases List.mem_cons.1 hq with rfl | hq
                · exact ⟨im, iz⟩
                · exact ⟨(H64.out q (List.mem_of_mem_drop hq)).1, (H64.out q (List.mem_of_mem_drop hq)).2.1⟩) hpc5
          rw [HC2.out] at hS3
          have HS3 := Lib.hid hS3
          obtain ⟨f0, f1, f2, f3, f4, f5⟩ := HP5.out.kp hk6
          have hVV : (V3 == V3) = true := by simp
          clear hS3 hpc5
          go_wp2_with fail
          refine HS3.out.mono ?_
          rintro e w9 ⟨rfl, hb9⟩
          go_wp2
          go_ret
          exact ⟨rfl, hkF.trans (hb9.mono hkF.size)⟩
    · generalize (salVE a b i n L).1 = V3
      generalize (salVE a b i n L).2 = E3 at *
      have hE : (E3 != 0) = true := by simpa using e2
      go_wp2
      go_ret
      exact ⟨rfl, hk4⟩
    · rw [e3]
      subst e2
      go_wp2
      go_ret
      exact ⟨rfl, hk4⟩

end Go.Proofs.Ytamglmenljgbdaa
