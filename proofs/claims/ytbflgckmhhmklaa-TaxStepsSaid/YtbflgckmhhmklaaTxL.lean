/-
  What is proved: the example of tax's statements returns true. Conditions: none.
-/
import Derived.Test.YtbflgckmhhmklaaTxK
import Derived.Deep.DeepCutAuto
namespace Go.Proofs.Ytbflgckmhhmklaa
open Go Go.RowKit Go.Proofs
set_option linter.unusedVariables false

/-- The example's bands. -/
def bdX : Nat → Bd := fun _ => (0, 200000)
theorem one_V : stpV 0 0 100000 1 12 120000 0 bdX 1 = (100000, 18000, 18000) := by decide
theorem one_E : stpE 0 0 100000 1 12 120000 0 bdX 1 = 0 := by decide
theorem two_V : stpV 100000 18000 0 2 12 120000 0 bdX 1 = (100000, 16000, -2000) := by decide
theorem two_E : stpE 100000 18000 0 2 12 120000 0 bdX 1 = 0 := by decide

set_option maxHeartbeats 4000000 in
set_option maxRecDepth 100000 in
theorem awake_any (w : World) : Calls Try.prog 9 #[] w fun e w' => e = .returned (.bool true) ∧ Below w.heap.size w w' := by
  have hb1 : Below w.heap.size w (w.alloc (.cells #[.int .i64 0, .int .i64 200000] 48)) := (Below.refl _ _).alloc (by omega) _
  have z1 : (w.alloc (.cells #[.int .i64 0, .int .i64 200000] 48)).heap.size = w.heap.size + 1 := by simp
  have hf1 : BdIn (w.alloc (.cells #[.int .i64 0, .int .i64 200000] 48)) (some ⟨w.heap.size, 0, none⟩) 1 bdX := by
    refine (.inr ⟨w.heap.size, 0, rfl, by omega, fun j hj => ?_⟩)
    obtain rfl : j = 0 := by omega
    refine ⟨?_, ?_⟩ <;> (rw [World.cell?_alloc_new]; rfl)
  have hk0 : Below (w.alloc (.cells #[.int .i64 0, .int .i64 200000] 48)).heap.size (w.alloc (.cells #[.int .i64 0, .int .i64 200000] 48)) ((w.alloc (.cells #[.int .i64 0, .int .i64 200000] 48)).alloc (.cells #[.int .i64 120000, .int .i64 0, .slice (some ⟨w.heap.size, 0, none⟩) 1 1] 25)) := (Below.refl _ _).alloc (Nat.le_refl _) _
  have hb2 : Below w.heap.size w ((w.alloc (.cells #[.int .i64 0, .int .i64 200000] 48)).alloc (.cells #[.int .i64 120000, .int .i64 0, .slice (some ⟨w.heap.size, 0, none⟩) 1 1] 25)) := hb1.trans (hk0.mono (by omega))
  have hf2 := hf1.kp hk0
  have hcd := Cd.new (w.alloc (.cells #[.int .i64 0, .int .i64 200000] 48)) 120000 0 (some ⟨w.heap.size, 0, none⟩) 1 1 25
  rw [z1] at hcd
  go_enter Try.func9, Try.ntmps9
  go_upto_region 2 with fail
  generalize ((w.alloc (.cells #[.int .i64 0, .int .i64 200000] 48)).alloc (.cells #[.int .i64 120000, .int .i64 0, .slice (some ⟨w.heap.size, 0, none⟩) 1 1] 25)) = W1 at hb2 hf2 hcd ⊢
  clear hb1 z1 hf1 hk0
  have H1 := Lib.hid (Step_any 0 0 100000 1 12 120000 0 (some ⟨w.heap.size, 0, none⟩) 1 1 bdX W1 (by decide) hf2)
  rw [one_V, one_E] at H1
  have HS := Lib.hid hcd
  obtain ⟨c0, c1, c2⟩ := hcd
  go_wp2_with fail
  refine (H1.out).mono ?_
  rintro e w2 ⟨rfl, hk2⟩
  have hb3 := hb2.trans (hk2.mono hb2.size)
  have hkA : Below W1.heap.size W1 (w2.alloc (.cells #[.int .i64 100000, .int .i64 18000] 32)) := hk2.alloc hk2.size _
  have hA : C2 (w2.alloc (.cells #[.int .i64 100000, .int .i64 18000] 32)) w2.heap.size 100000 18000 := C2.new _ _ _ _
  clear c0 c1 c2 H1
  go_upto_region 3 with fail
  generalize (w2.alloc (.cells #[.int .i64 100000, .int .i64 18000] 32)) = WA at hkA hA ⊢
  generalize w2.heap.size = gA at hA ⊢
  have hfA := hf2.kp hkA
  have hcA := HS.out.kp hkA
  have hbA := hb2.trans (hkA.mono hb2.size)
  have H2 := Lib.hid (Step_any 100000 18000 0 2 12 120000 0 (some ⟨w.heap.size, 0, none⟩) 1 1 bdX WA (by decide) hfA)
  rw [two_V, two_E] at H2
  have HA := Lib.hid hA
  obtain ⟨c0, c1, c2⟩ := hcA
  obtain ⟨a0, a1⟩ := hA
  clear hf2 hfA hb2 hb3 hk2 hkA HS
  go_wp2_with fail
  refine (H2.out).mono ?_
  rintro e w4 ⟨rfl, hk4⟩
  have hkB : Below WA.heap.size WA (w4.alloc (.cells #[.int .i64 100000, .int .i64 16000] 32)) := hk4.alloc hk4.size _
  have hB : C2 (w4.alloc (.cells #[.int .i64 100000, .int .i64 16000] 32)) w4.heap.size 100000 16000 := C2.new _ _ _ _
  clear c0 c1 c2 a0 a1 H2
  go_upto_region 4 with fail
  generalize (w4.alloc (.cells #[.int .i64 100000, .int .i64 16000] 32)) = WB at hkB hB ⊢
  generalize w4.heap.size = gB at hB ⊢
  have hA2 := HA.out.kp hkB
  have hbB := hbA.trans (hkB.mono hbA.size)
  obtain ⟨a0, a1⟩ := hA2
  obtain ⟨b0, b1⟩ := hB
  clear HA hkB hk4 hbA
  go_wp2
  go_ret
  exact ⟨rfl, hbB⟩

end Go.Proofs.Ytbflgckmhhmklaa
