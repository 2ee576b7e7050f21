/-
  What is proved: the contracts of social's check and of the document's Check. Conditions: the code is shorter than 2^62 bytes.
-/
import Derived.Test.YtibbgihcmcnamaaSoF
namespace Go.Proofs.Ytibbgihcmcnamaa
open Go Go.RowKit Go.Lib Go.Proofs
open Ra (fitsB fitsB_iff)
set_option linter.unusedVariables false

/-- What is wrong with a scheme. -/
def schE (nm : Bool) (x y z : Int) : Int := if nm = true then (if (partB x && partB y && fit0 z) = true then 0 else 2) else 12
/-- What is wrong with a scheme's sums, or with the scheme. -/
def chkE (rt nm : Bool) (x y z : Int) : Int := if rt = true then schE nm x y z else 2
theorem fit0_ways (z : Int) : (fit0 z = false ∧ decide (z < 0) = true) ∨ (fit0 z = false ∧ decide (z < 0) = false ∧ decide (1125899906842624 < z) = true) ∨ (fit0 z = true ∧ decide (z < 0) = false ∧ decide (1125899906842624 < z) = false) := by
  simp only [fit0, Bool.and_eq_true, Bool.and_eq_false_iff, decide_eq_true_eq, decide_eq_false_iff_not]; omega

set_option maxHeartbeats 4000000 in
theorem check_any (a b c d : Int) (s : ByteArray) (x y z : Int) (hs : s.size ≤ 4611686018427387904) (w : World) :
    Calls Try.prog 21 #[.agg #[.int .i64 a, .int .i64 b, .int .i64 c, .int .i64 d], .agg #[.string s, .int .i64 x, .int .i64 y, .int .i64 z]] w fun e w' => e = .returned (.int .i64 (chkE (rightS a b c d) (nameL s.data.toList) x y z)) ∧ Below w.heap.size w w' := by
  have HR := Lib.hid (fun W => isRight_any a b c d W)
  have HN := Lib.hid (fun W => isName_any s hs W)
  have H1 := Lib.hid (fun W => isPart_any x W)
  have H2 := Lib.hid (fun W => isPart_any y W)
  unfold chkE schE
  generalize rightS a b c d = rt at HR ⊢
  generalize nameL s.data.toList = nm at HN ⊢
  generalize partB x = px at H1 ⊢
  generalize partB y = py at H2 ⊢
  obtain ⟨W0, hW0⟩ : ∃ W0, W0 = (w.alloc (.cells #[.int .i64 a, .int .i64 b, .int .i64 c, .int .i64 d] 24)).alloc (.cells #[.string s, .int .i64 x, .int .i64 y, .int .i64 z] 27) := ⟨_, rfl⟩
  have hb3 : Below w.heap.size w W0 := by rw [hW0]; exact ((Below.refl w.heap.size w).alloc (Nat.le_refl _) _).alloc (by simp) _
  have z1 : (w.alloc (.cells #[.int .i64 a, .int .i64 b, .int .i64 c, .int .i64 d] 24)).heap.size = w.heap.size + 1 := by simp
  have h4 : C4 W0 w.heap.size a b c d := by
    rw [hW0]
    exact (C4.new w a b c d _).kp ((Below.refl _ _).alloc (Nat.le_refl _) _)
  have hS : Sc W0 (w.heap.size + 1) s x y z := by
    rw [hW0, ← z1]
    exact Sc.new _ s x y z _
  clear z1
  have hz' := fit0_ways z
  generalize fit0 z = pz at hz' ⊢
  have hz := Lib.hid hz'
  clear hz'
  have KP : Hid (∀ w', Below W0.heap.size W0 w' → (w'.cell? ⟨w.heap.size + 1, 0, none⟩ = some (.string s) ∧ w'.cell? ⟨w.heap.size + 1, 1, none⟩ = some (.int .i64 x) ∧ w'.cell? ⟨w.heap.size + 1, 2, none⟩ = some (.int .i64 y) ∧ w'.cell? ⟨w.heap.size + 1, 3, none⟩ = some (.int .i64 z))) := Lib.hid (fun w' h => hS.kp h)
  obtain ⟨c0, c1, c2, c3⟩ := h4
  clear hS
  go_enter Try.func21, Try.ntmps21
  go_upto_region 1 with fail
  rw [← hW0]
  clear hW0
  go_wp2_with fail
  refine (HR.out _).mono ?_
  rintro e w1 ⟨rfl, hb1⟩
  have hb4 := hb3.trans (hb1.mono hb3.size)
  obtain ⟨s0, s1, s2, s3⟩ := KP.out _ hb1
  clear KP c0 c1 c2 c3 HR hb1 hb3
  cases rt
  case false =>
    go_wp2
    go_ret
    exact ⟨rfl, hb4⟩
  case true =>
    go_wp2_with fail
    refine (HN.out _).mono ?_
    rintro e w2 ⟨rfl, rfl⟩
    cases nm
    case false =>
      go_wp2
      go_ret
      exact ⟨rfl, hb4⟩
    case true =>
      rcases hz.out with ⟨rfl, d1⟩ | ⟨rfl, d1, d2⟩ | ⟨rfl, d1, d2⟩
      all_goals
        clear hz
        cases px <;> cases py
      all_goals
        go_wp2_with (first | ((with_reducible refine (H1.out _).mono ?_); rintro e w3 ⟨rfl, rfl⟩) | ((with_reducible refine (H2.out _).mono ?_); rintro e w3 ⟨rfl, rfl⟩))
        go_ret
        exact ⟨rfl, hb4⟩

set_option maxHeartbeats 4000000 in
theorem rcheck_any (s : ByteArray) (x y z : Int) (hs : s.size ≤ 4611686018427387904) (w : World) :
    Calls Try.prog 26 #[.agg #[.string s, .int .i64 x, .int .i64 y, .int .i64 z]] w fun e w' => e = .returned (.int .i64 (schE (nameL s.data.toList) x y z)) ∧ Below w.heap.size w w' := by
  have HN := Lib.hid (fun W => word_any s hs W)
  have H1 := Lib.hid (fun W => rpartB_any x W)
  have H2 := Lib.hid (fun W => rpartB_any y W)
  have H3 := Lib.hid (fun W => rfits_any z W)
  unfold schE
  generalize nameL s.data.toList = nm at HN ⊢
  generalize partB x = px at H1 ⊢
  generalize partB y = py at H2 ⊢
  generalize fit0 z = pz at H3 ⊢
  have hb3 : Below w.heap.size w (w.alloc (.cells #[.string s, .int .i64 x, .int .i64 y, .int .i64 z] 27)) := (Below.refl w.heap.size w).alloc (Nat.le_refl _) _
  cases nm
  case false =>
    go_enter Try.func26, Try.ntmps26
    go_wp2_with fail
    refine (HN.out _).mono ?_
    rintro e w1 ⟨rfl, rfl⟩
    go_wp2
    go_ret
    exact ⟨rfl, hb3⟩
  case true =>
    cases px <;> cases py <;> cases pz
    all_goals
      go_enter Try.func26, Try.ntmps26
      go_wp2_with fail
      refine (HN.out _).mono ?_
      rintro e w1 ⟨rfl, rfl⟩
      go_wp2_with (first | ((with_reducible refine (H1.out _).mono ?_); rintro e w3 ⟨rfl, rfl⟩) | ((with_reducible refine (H2.out _).mono ?_); rintro e w3 ⟨rfl, rfl⟩) | ((with_reducible refine (H3.out _).mono ?_); rintro e w3 ⟨rfl, rfl⟩))
      go_ret
      exact ⟨rfl, hb3⟩

end Go.Proofs.Ytibbgihcmcnamaa
