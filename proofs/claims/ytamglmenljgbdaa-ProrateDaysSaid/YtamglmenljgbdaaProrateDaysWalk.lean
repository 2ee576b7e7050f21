/-
  What is proved: the walk of the statement ProrateDays: the call returns true. Conditions: what came in is as the frame says.
-/
import Derived.Test.YtamglmenljgbdaaPrH
import Derived.Test.YtamglmenljgbdaaPrI
import Derived.Test.YtamglmenljgbdaaPrMd
import Derived.Test.YtamglmenljgbdaaFrameR
namespace Go.Proofs.Ytamglmenljgbdaa
open Go Go.RowKit Go.Proofs
set_option linter.unusedVariables false
set_option linter.unusedSimpArgs false

theorem one4 (x y z u : Int) : ∀ v ∈ [Value.int .i64 x, .int .i64 y, .int .i64 z, .int .i64 u], v.oneCell' = true := by
  intro v hv
  simp at hv
  rcases hv with rfl | rfl | rfl | rfl <;> rfl
set_option maxHeartbeats 8000000 in
set_option maxRecDepth 100000 in
theorem walkProrateDays (py i n a b pd y P f t : Int) (w : World) (hp : in64 py ∧ in64 i ∧ in64 n ∧ in64 a ∧ in64 b ∧ in64 pd) (_ : (Lit.int .i64 y).wf = true) (_ : (Lit.int .i64 P).wf = true) (hf : (Lit.int .u8 f).wf = true) (ht : (Lit.int .u8 t).wf = true) :
    Calls Try.prog 9 #[.agg #[.int .i64 py, .int .i64 i, .int .i64 n, .int .i64 a, .int .i64 b, .int .i64 pd], .int .i64 y, .int .i64 P, .int .u8 f, .int .u8 t] w fun e w' => e = .returned (.bool true) ∧ Below w.heap.size w w' := by
  have hf1 : 0 ≤ f ∧ f ≤ 255 := by
    simp [Lit.wf, IntKind.min, IntKind.max, IntKind.signed, IntKind.bits] at hf
    omega
  have ht1 : 0 ≤ t ∧ t ≤ 255 := by
    simp [Lit.wf, IntKind.min, IntKind.max, IntKind.signed, IntKind.bits] at ht
    omega
  clear hf ht
  obtain ⟨-, hi, -, ha, hb, -⟩ := hp
  have hk0 := (Below.refl w.heap.size w).alloc (Nat.le_refl _) (.cells #[.int .i64 py, .int .i64 i, .int .i64 n, .int .i64 a, .int .i64 b, .int .i64 pd] 26)
  have HP0 := Lib.hid (show P6 (w.alloc (.cells #[.int .i64 py, .int .i64 i, .int .i64 n, .int .i64 a, .int .i64 b, .int .i64 pd] 26)) w.heap.size py i n a b pd by unfold P6; refine ⟨?_, ?_, ?_, ?_, ?_, ?_⟩ <;> (rw [World.cell?_alloc_new]; rfl))
  by_cases hbad : a < -1099511627776 ∨ 1099511627776 < b ∨ 40 < RowKit.wrap64 (b - a) ∨ b ≤ a
  · have hb4 : a < -1099511627776 ∨ (¬ a < -1099511627776 ∧ 1099511627776 < b) ∨ (¬ a < -1099511627776 ∧ ¬ 1099511627776 < b ∧ 40 < RowKit.wrap64 (b - a)) ∨ (¬ a < -1099511627776 ∧ ¬ 1099511627776 < b ∧ ¬ 40 < RowKit.wrap64 (b - a) ∧ b ≤ a) := by omega
    clear hbad
    rcases hb4 with g | ⟨g1, g⟩ | ⟨g1, g2, g⟩ | ⟨g1, g2, g3, g⟩
    all_goals
      go_enter Try.func9, Try.ntmps9
      go_wp2_with fail
      refine (awake_any _).mono ?_
      rintro e w1 ⟨rfl, hb1⟩
      obtain ⟨f0, f1, f2, f3, f4, f5⟩ := HP0.out.kp hb1
      go_wp2
      go_ret
      exact ⟨rfl, hk0.trans (hb1.mono hk0.size)⟩
  have hw : RowKit.wrap64 (b - a) = b - a := wr64 (by unfold in64 at *; omega)
  rw [hw] at hbad
  clear hw
  have g1 : ¬ a < -1099511627776 := by omega
  have g2 : ¬ 1099511627776 < b := by omega
  have g3 : ¬ 40 < b - a := by omega
  have g4 : ¬ b ≤ a := by omega
  have HG := Lib.hid (show -1099511627776 ≤ a ∧ b ≤ 1099511627776 ∧ b - a ≤ 40 ∧ a < b by omega)
  clear hbad
  obtain ⟨m, hm⟩ : ∃ m : Nat, (m : Int) = b - a := ⟨(b - a).toNat, by omega⟩
  have HMm := Lib.hid hm
  have m0 : 0 < m := by omega
  have m40 : m ≤ 40 := by omega
  clear hm
  have hsal := fun (x z : Int) (h1 : a ≤ x) (h2 : x < z) (h3 : z ≤ b) (g : Nat) (W : World) (h : PcsIn W (some ⟨g, 0, none⟩) [((x, z), y, P)]) => Salary_any py pd a b i n (some ⟨g, 0, none⟩) 1 1 [((x, z), y, P)] W ha hb hi rfl (by omega) (fun q hq => by rw [List.mem_singleton.1 hq]; unfold in64 at *; dsimp only; omega) h
  have hone := fun (x z : Int) (h1 : a ≤ x) (h2 : x < z) (h3 : z ≤ b) => sal_one (a := a) (b := b) (i := i) (n := n) (x := x) (z := z) (Y := y) (P := P) h1 h2 h3 (by omega)
  have HSA := Lib.hid hsal
  have HON := Lib.hid hone
  clear hsal hone
  go_enter Try.func9, Try.ntmps9
  go_wp2_with fail
  refine (awake_any _).mono ?_
  rintro e w1 ⟨rfl, hb1⟩
  have hk1 := hk0.trans (hb1.mono hk0.size)
  have HP1 := Lib.hid (HP0.out.kp hb1)
  obtain ⟨f0, f1, f2, f3, f4, f5⟩ := HP1.out
  have hc1 := HSA.out a b (by omega) (by omega) (by omega) w1.heap.size _ (one_pc w1 a b y P 50)
  rw [HON.out a b (by omega) (by omega) (by omega)] at hc1
  by_cases he : amtE i n y P = 0
  · rw [if_pos he, up_all _ _ (by omega), show a - a = 0 by omega, up_no _ _ (by omega), Int.sub_zero] at hc1
    have HC1 := Lib.hid hc1
    have HDs := Lib.hid (sal_days HMm.out m0 m40 he)
    have HE := Lib.hid he
    have hba := (Below.refl w1.heap.size w1).alloc (Nat.le_refl _) (.cells #[.int .i64 a, .int .i64 b, .int .i64 y, .int .i64 P] 50)
    clear hc1 he
    go_wp2_with fail
    refine HC1.out.mono ?_
    rintro e w2 ⟨rfl, hb2⟩
    have hx2 := hba.trans (hb2.mono hba.size)
    have hk2 := hk1.trans (hx2.mono hk1.size)
    have HP2 := Lib.hid (HP1.out.kp hx2)
    clear f0 f1 f2 f3 f4 f5
    obtain ⟨f0, f1, f2, f3, f4, f5⟩ := HP2.out
    have O0 : Hid (w2.ownsRow w2.heap.size 50 4 (.slice none 0 0) 0 (pcC (dayL a y P 0))) := Lib.hid ⟨rfl, .inl ⟨rfl, rfl⟩⟩
    go_wp2
    go_loopw [13, 14] (fun lv dv wr => ∃ k : Nat, k ≤ m ∧ dv = .int .i64 (a + (k : Int)) ∧ Hid (wr.ownsRow w2.heap.size 50 4 lv k (pcC (dayL a y P k))) ∧ Below w2.heap.size w2 wr) (fun _ dv _ => (b - RowKit.intOf dv).toNat)
    case atStart => exact ⟨0, by omega, by simp, O0, Below.refl _ _⟩
    case round =>
      obtain ⟨k, hk, rfl, HO, hbr⟩ := hrel
      clear f0 f1 f2 f3 f4 f5
      obtain ⟨f0, f1, f2, f3, f4, f5⟩ := HP2.out.kp hbr
      have hmi := HMm.out
      by_cases hlt : k < m
      · have hki : a + (k : Int) < b := by omega
        have HNx : Hid (pcC (dayL a y P (k + 1)) = pcC (dayL a y P k) ++ [.int .i64 (a + (k : Int)), .int .i64 (a + (k : Int) + 1), .int .i64 y, .int .i64 P]) := Lib.hid (by rw [dayL_next, pcC_app]; rfl)
        have hsz := hbr.size
        clear hmi
        go_wp2_with (at_builtin; refine Sp.app_arm Try.underlying28 infP rfl (by omega) (by omega) w2.heap.size wr _ k _ HO.out 1 [.int .i64 (a + (k : Int)), .int .i64 (a + (k : Int) + 1), .int .i64 y, .int .i64 P] rfl (one4 _ _ _ _) (by omega) hsz rfl _ _ rfl rfl rfl ?_; intro v' w3 ho hg; have HO3 := Lib.hid ho; have HG3 := Lib.hid hg; clear ho hg)
        have hbz := (hbr.alloc hbr.size (.cells #[.int .i64 (a + (k : Int)), .int .i64 (a + (k : Int) + 1), .int .i64 y, .int .i64 P] 50))
        exact ⟨⟨k + 1, by omega, by rw [show a + ((k + 1 : Nat) : Int) = a + (k : Int) + 1 by omega], Lib.hid (by rw [HNx.out]; exact HO3.out), hbz.grown HG3.out hbz.size (own_from HO.out)⟩, by simp [RowKit.intOf]; omega⟩
      · obtain rfl : k = m := by omega
        have hki : ¬ a + (k : Int) < b := by omega
        obtain ⟨q, c', hv'⟩ := own_slice HO.out
        have hO := HO.out
        rw [hv'] at hO
        have hpc := pcs_own hO (dayL_len a y P k)
        obtain ⟨G1, G2, G3, G4⟩ := HG.out
        have hS := Salary_any py pd a b i n q k c' (dayL a y P k) wr ha hb hi (dayL_len a y P k) (by omega) (fun q hq => by
          obtain ⟨j, hj, rfl⟩ := dayL_mem hq
          unfold in64 at *; dsimp only; omega) hpc
        rw [HDs.out] at hS
        have HS := Lib.hid hS
        subst hv'
        obtain ⟨r1, hr1, r1m⟩ : ∃ r1 : Nat, f.tmod (b - a) = (r1 : Int) ∧ r1 < k := ⟨(f % (b - a)).toNat, by
          have h1 := Int.emod_nonneg f (show b - a ≠ 0 by omega)
          rw [Int.tmod_eq_emod_of_nonneg hf1.1]; omega, by
          have h1 := Int.emod_nonneg f (show b - a ≠ 0 by omega)
          have h2 := Int.emod_lt_of_pos f (show 0 < b - a by omega)
          omega⟩
        obtain ⟨r2, hr2, r2m⟩ : ∃ r2 : Nat, t.tmod (b - (a + (r1 : Int))) = (r2 : Int) ∧ (r2 : Int) < b - (a + (r1 : Int)) := ⟨(t % (b - (a + (r1 : Int)))).toNat, by
          have h1 := Int.emod_nonneg t (show b - (a + (r1 : Int)) ≠ 0 by omega)
          rw [Int.tmod_eq_emod_of_nonneg ht1.1]; omega, by
          have h1 := Int.emod_nonneg t (show b - (a + (r1 : Int)) ≠ 0 by omega)
          have h2 := Int.emod_lt_of_pos t (show 0 < b - (a + (r1 : Int)) by omega)
          omega⟩
        have HX := Lib.hid (fun (W : World) (g : Nat) h => HSA.out (a + (r1 : Int)) (a + (r1 : Int) + 1 + (r2 : Int)) (by omega) (by omega) (by omega) g W h)
        have HY := Lib.hid (fun (W : World) (g : Nat) h => HSA.out (a + (r1 : Int)) b (by omega) (by omega) (by omega) g W h)
        rw [HON.out _ _ (by omega) (by omega) (by omega), if_pos HE.out] at HX
        rw [HON.out _ _ (by omega) (by omega) (by omega), if_pos HE.out, up_all _ _ (by omega)] at HY
        have hmon : ¬ wholeV i n y P < 0 → 0 ≤ Sh.upV (wholeV i n y P) (a + (r1 : Int) - a) (b - a) ∧ Sh.upV (wholeV i n y P) (a + (r1 : Int) - a) (b - a) ≤ Sh.upV (wholeV i n y P) (a + (r1 : Int) + 1 + (r2 : Int) - a) (b - a) ∧ Sh.upV (wholeV i n y P) (a + (r1 : Int) + 1 + (r2 : Int) - a) (b - a) ≤ wholeV i n y P := fun h => by
          have q1 := up_mono (wholeV i n y P) 0 (a + (r1 : Int) - a) (b - a) (by omega) (by omega) (by omega)
          have q2 := up_mono (wholeV i n y P) (a + (r1 : Int) - a) (a + (r1 : Int) + 1 + (r2 : Int) - a) (b - a) (by omega) (by omega) (by omega)
          have q3 := up_mono (wholeV i n y P) (a + (r1 : Int) + 1 + (r2 : Int) - a) (b - a) (b - a) (by omega) (by omega) (by omega)
          rw [up_no _ _ (by omega)] at q1
          rw [up_all _ _ (by omega)] at q3
          exact ⟨q1, q2, q3⟩
        generalize wholeV i n y P = V at *
        generalize Sh.upV V (a + (r1 : Int) - a) (b - a) = X2 at *
        generalize Sh.upV V (a + (r1 : Int) + 1 + (r2 : Int) - a) (b - a) = X1 at *
        have hz1 : (b - a == 0) = false := by rw [beq_eq_false_iff_ne]; omega
        have hz2 : (b - (a + (r1 : Int)) == 0) = false := by rw [beq_eq_false_iff_ne]; omega
        have hne1 : ¬ b - a = 0 := by omega
        have hne2 : ¬ b - (a + (r1 : Int)) = 0 := by omega
        have hVV : (V != V) = false := by simp
        have n1 : IntKind.i64.wrap (a + (r1 : Int)) = a + (r1 : Int) := IntWalk.i64_in _ (by omega)
        have N1 := Lib.hid n1
        have HZ := Lib.hid (And.intro hmi (And.intro r1m (And.intro r2m (And.intro G1 G2))))
        clear hS hO hpc n1 G1 G2 G3 G4
        go_wp2_with fail
        refine HS.out.mono ?_
        rintro e w5 ⟨rfl, hb5⟩
        have hk5 := hbr.trans (hb5.mono hbr.size)
        have HP5 := Lib.hid (HP2.out.kp hk5)
        clear f0 f1 f2 f3 f4 f5
        obtain ⟨f0, f1, f2, f3, f4, f5⟩ := HP5.out
        have n1 := N1.out
        go_wp2
        go_quiet (fail)
        have hk6 := below_drewN hk5 nq
        have HP6 := Lib.hid (show P6 (w5.drewN nq) w.heap.size py i n a b pd from HP5.out)
        clear f0 f1 f2 f3 f4 f5 n1 HP5 hb5 hk5 HS
        generalize w5.drewN nq = W6 at *
        obtain ⟨f0, f1, f2, f3, f4, f5⟩ := HP6.out
        have hba6 := (Below.refl W6.heap.size W6).alloc (Nat.le_refl _) (.cells #[.int .i64 (a + (r1 : Int)), .int .i64 (a + (r1 : Int) + 1 + (r2 : Int)), .int .i64 y, .int .i64 P] 50)
        obtain ⟨i1, i2, i3, i4, i5⟩ := HZ.out
        go_wp2_with fail
        refine (HX.out _ _ (one_pc W6 (a + (r1 : Int)) (a + (r1 : Int) + 1 + (r2 : Int)) y P _)).mono ?_
        rintro e w7 ⟨rfl, hb7⟩
        have hx7 := hba6.trans (hb7.mono hba6.size)
        have hk7 := hk6.trans (hx7.mono hk6.size)
        have HP7 := Lib.hid (HP6.out.kp hx7)
        clear f0 f1 f2 f3 f4 f5 i1 i2 i3 i4 i5
        obtain ⟨f0, f1, f2, f3, f4, f5⟩ := HP7.out
        have hba7 := (Below.refl w7.heap.size w7).alloc (Nat.le_refl _) (.cells #[.int .i64 (a + (r1 : Int)), .int .i64 b, .int .i64 y, .int .i64 P] 50)
        go_wp2_with fail
        refine (HY.out _ _ (one_pc w7 (a + (r1 : Int)) b y P _)).mono ?_
        rintro e w8 ⟨rfl, hb8⟩
        have hx8 := hba7.trans (hb8.mono hba7.size)
        have hk8 := hk7.trans (hx8.mono hk7.size)
        by_cases hV : V < 0
        · go_wp2
          go_ret
          exact ⟨rfl, hk2.trans (hk8.mono hk2.size)⟩
        · obtain ⟨q1, q2, q3⟩ := hmon (by omega)
          have c1 : 0 ≤ X1 - X2 := by omega
          have c2 : X1 - X2 ≤ V - X2 := by omega
          have c3 : V - X2 ≤ V := by omega
          clear hmon
          go_wp2
          go_ret
          exact ⟨rfl, hk2.trans (hk8.mono hk2.size)⟩
  · rw [if_neg he] at hc1
    have HC1 := Lib.hid hc1
    have hE : (amtE i n y P != 0) = true := by simpa using he
    have hba := (Below.refl w1.heap.size w1).alloc (Nat.le_refl _) (.cells #[.int .i64 a, .int .i64 b, .int .i64 y, .int .i64 P] 50)
    clear hc1 he
    generalize amtE i n y P = AE at *
    go_wp2_with fail
    refine HC1.out.mono ?_
    rintro e w2 ⟨rfl, hb2⟩
    have hx2 := hba.trans (hb2.mono hba.size)
    have hk2 := hk1.trans (hx2.mono hk1.size)
    go_wp2
    go_ret
    exact ⟨rfl, hk2⟩

end Go.Proofs.Ytamglmenljgbdaa
