/-
  What is proved: the walk of the statement ProrateSalary: the call returns true. Conditions: what came in is as the frame says.
-/
import Derived.Test.YtamglmenljgbdaaPrH
import Derived.Test.YtamglmenljgbdaaPrJ
import Derived.Test.YtamglmenljgbdaaPrL
import Derived.Test.YtamglmenljgbdaaFrameR
namespace Go.Proofs.Ytamglmenljgbdaa
open Go Go.RowKit Go.Proofs
set_option linter.unusedVariables false
set_option linter.unusedSimpArgs false

set_option maxHeartbeats 4000000 in
set_option maxRecDepth 100000 in
theorem walkProrateSalary (py i n a b pd y : Int) (pl : Option Addr) (len cap : Nat) (L : List Pc) (w : World) (hp : in64 py ∧ in64 i ∧ in64 n ∧ in64 a ∧ in64 b ∧ in64 pd) (_ : (Lit.int .i64 y).wf = true) (hl : PcsArg w pl len cap L) :
    Calls Try.prog 3 #[.agg #[.int .i64 py, .int .i64 i, .int .i64 n, .int .i64 a, .int .i64 b, .int .i64 pd], .int .i64 y, .slice pl len cap] w fun e w' => e = .returned (.bool true) ∧ Below w.heap.size w w' := by
  obtain ⟨-, hi, -, ha, hb, -⟩ := hp
  obtain ⟨hln, hin, h64, hmx, -, -, -⟩ := hl
  unfold maxLen at hmx
  have h64' : ∀ q ∈ L, in64 q.1.1 ∧ in64 q.1.2 := fun q hq => ⟨(h64 q hq).1, (h64 q hq).2.1⟩
  have hk0 := (Below.refl w.heap.size w).alloc (Nat.le_refl _) (.cells #[.int .i64 py, .int .i64 i, .int .i64 n, .int .i64 a, .int .i64 b, .int .i64 pd] 26)
  have HP0 := Lib.hid (show P6 (w.alloc (.cells #[.int .i64 py, .int .i64 i, .int .i64 n, .int .i64 a, .int .i64 b, .int .i64 pd] 26)) w.heap.size py i n a b pd by unfold P6; refine ⟨?_, ?_, ?_, ?_, ?_, ?_⟩ <;> (rw [World.cell?_alloc_new]; rfl))
  have HI := Lib.hid hin
  have H1 := Lib.hid (fun W => Period_any py i n a b pd y W hi)
  have H2 := Lib.hid (fun W => rPeriod_any i n y W hi)
  have H3 := Lib.hid (fun W (h : PcsIn W pl L) => Salary_any py pd a b i n pl len cap L W ha hb hi hln (by omega) h64' h)
  have H4 := Lib.hid (fun W q c (h : PcsIn W q L) => rSalary_any a b i n q len c L W ha hb hi hln (by omega) h64' h)
  have H5 : Hid (len ≤ 80 → ∀ W, PcsIn W pl L → Calls Try.prog 16 #[.slice pl len cap] W fun e w' => ∃ (q : Option Addr) (c' : Nat), e = .returned (.slice q len c') ∧ PcsIn w' q L ∧ Below W.heap.size W w') := Lib.hid (fun h80 W h => of_any L pl len cap W hln h (by omega))
  generalize perV y i n = V1 at H1 H2
  generalize perE y i n = E1 at H1 H2
  generalize (salVE a b i n L).1 = V2 at H3 H4
  generalize (salVE a b i n L).2 = E2 at H3 H4
  have d1 : (V1 == V1) = true := by simp
  have d2 : (E1 == E1) = true := by simp
  have d3 : (V2 == V2) = true := by simp
  have d4 : (E2 == E2) = true := by simp
  clear hln hin h64 h64'
  by_cases hbig : 80 < len
  · have hi1 : (80 : Int) < (len : Int) := by omega
    go_enter Try.func3, Try.ntmps3
    go_wp2_with fail
    refine (awake_any _).mono ?_
    rintro e w1 ⟨rfl, hb1⟩
    go_wp2
    go_ret
    exact ⟨rfl, hk0.trans (hb1.mono hk0.size)⟩
  have hi1 : ¬ (80 : Int) < (len : Int) := by omega
  have H5' := Lib.hid (H5.out (by omega))
  clear H5 hbig
  go_enter Try.func3, Try.ntmps3
  go_wp2_with fail
  refine (awake_any _).mono ?_
  rintro e w1 ⟨rfl, hb1⟩
  have hk1 := hk0.trans (hb1.mono hk0.size)
  have HP1 := Lib.hid (HP0.out.kp hb1)
  obtain ⟨f0, f1, f2, f3, f4, f5⟩ := HP1.out
  go_wp2_with fail
  refine (H1.out _).mono ?_
  rintro e w2 ⟨rfl, hb2⟩
  have hk2 := hk1.trans (hb2.mono hk1.size)
  have HP2 := Lib.hid (HP1.out.kp hb2)
  clear f0 f1 f2 f3 f4 f5
  obtain ⟨f0, f1, f2, f3, f4, f5⟩ := HP2.out
  go_wp2_with fail
  refine (H2.out _).mono ?_
  rintro e w3 ⟨rfl, rfl⟩
  go_wp2_with fail
  refine (H3.out _ (HI.out.below hk2 (Nat.le_refl _))).mono ?_
  rintro e w4 ⟨rfl, hb4⟩
  have hk4 := hk2.trans (hb4.mono hk2.size)
  have HP4 := Lib.hid (HP2.out.kp hb4)
  have HI4 := Lib.hid (HI.out.below hk4 (Nat.le_refl _))
  clear f0 f1 f2 f3 f4 f5
  have KP : Hid (∀ w', Below w4.heap.size w4 w' → ((w'.cell? ⟨w.heap.size, 1, none⟩ = some (.int .i64 i) ∧ w'.cell? ⟨w.heap.size, 2, none⟩ = some (.int .i64 n) ∧ w'.cell? ⟨w.heap.size, 3, none⟩ = some (.int .i64 a) ∧ w'.cell? ⟨w.heap.size, 4, none⟩ = some (.int .i64 b)) ∧ Below w4.heap.size w4 w')) := Lib.hid (fun w' h => by
    obtain ⟨f0, f1, f2, f3, f4, f5⟩ := HP4.out.kp h
    exact ⟨⟨f1, f2, f3, f4⟩, h⟩)
  go_wp2
  go_region_held3 (fun w' => (w'.cell? ⟨w.heap.size, 1, none⟩ = some (.int .i64 i) ∧ w'.cell? ⟨w.heap.size, 2, none⟩ = some (.int .i64 n) ∧ w'.cell? ⟨w.heap.size, 3, none⟩ = some (.int .i64 a) ∧ w'.cell? ⟨w.heap.size, 4, none⟩ = some (.int .i64 b)) ∧ Below w4.heap.size w4 w')
    (first | exact KP.out _ (Below.refl _ _).drew | exact KP.out _ (by assumption))
    (first | (go_at_call 16; refine (H5'.out _ (HI4.out.below (by first | assumption | exact (Below.refl _ _).drew) (Nat.le_refl _))).mono ?_; rintro e w5 ⟨q, c', rfl, hpc, hb5⟩; have hk5 : Below w4.heap.size w4 w5 := s_call hb5 (by first | assumption | exact (Below.refl _ _).drew)) | (go_at_call 15; refine (H4.out _ _ _ (by assumption)).mono ?_; rintro e w6 ⟨rfl, hb6⟩; have hk6 : Below w4.heap.size w4 w6 := s_call hb6 (by assumption)))
  all_goals
    rename_i hHeld
    obtain ⟨-, hkx⟩ := hHeld
    go_wp2
    go_ret
    exact ⟨rfl, hk4.trans (hkx.mono hk4.size)⟩

end Go.Proofs.Ytamglmenljgbdaa
