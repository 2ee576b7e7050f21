/-
  What is proved: the document's examples of prorate come out as it says ('awake' of the statements of prorate returns true). Conditions: none.
-/
import Derived.Test.YtamglmenljgbdaaPrG
namespace Go.Proofs.Ytamglmenljgbdaa
open Go Go.RowKit Go.Proofs

theorem one_pc (w : World) (x z Y P : Int) (t : TypeId) : PcsIn (w.alloc (.cells #[.int .i64 x, .int .i64 z, .int .i64 Y, .int .i64 P] t)) (some ⟨w.heap.size, 0, none⟩) [((x, z), Y, P)] := by
  refine .inr ⟨_, _, rfl, fun j hj => ?_⟩
  have e : j = 0 := by simp at hj; omega
  subst e
  rw [World.cell?_alloc_new, World.cell?_alloc_new, World.cell?_alloc_new, World.cell?_alloc_new]
  exact ⟨rfl, rfl, rfl, rfl⟩
theorem awake_sal : salVE 0 31 3 12 [((10, 31), 6000000, 1000000)] = (338710, 0) := by kernel_rfl
theorem awake_loss : lossVE (kk 0 31) 500000 9600 480 500000 = (12500, 0) := by kernel_rfl
theorem awake_hour : hourVE 6240000 2400 = (3000, 0) := by kernel_rfl

set_option maxHeartbeats 1000000 in
set_option maxRecDepth 100000 in
theorem awake_any (w : World) : Calls Try.prog 11 #[] w fun e w' => e = .returned (.bool true) ∧ Below w.heap.size w w' := by
  have hb0 := (Below.refl w.heap.size w).alloc (Nat.le_refl _) (.cells #[.int .i64 0, .int .i64 3, .int .i64 12, .int .i64 0, .int .i64 31, .int .i64 0] 26)
  have hb1 := hb0.alloc hb0.size (.cells #[.int .i64 10, .int .i64 31, .int .i64 6000000, .int .i64 1000000] 50)
  have hz : (w.alloc (.cells #[.int .i64 0, .int .i64 3, .int .i64 12, .int .i64 0, .int .i64 31, .int .i64 0] 26)).heap.size = w.heap.size + 1 := by simp
  have hp6 : P6 (w.alloc (.cells #[.int .i64 0, .int .i64 3, .int .i64 12, .int .i64 0, .int .i64 31, .int .i64 0] 26)) w.heap.size 0 3 12 0 31 0 := by unfold P6; refine ⟨?_, ?_, ?_, ?_, ?_, ?_⟩ <;> (rw [World.cell?_alloc_new]; rfl)
  have hp6b := hp6.kp ((Below.refl _ _).alloc (Nat.le_refl _) (.cells #[.int .i64 10, .int .i64 31, .int .i64 6000000, .int .i64 1000000] 50))
  have hs := Salary_any 0 0 0 31 3 12 (some ⟨w.heap.size + 1, 0, none⟩) 1 1 [((10, 31), 6000000, 1000000)] _ (by unfold in64; omega) (by unfold in64; omega) (by unfold in64; omega) rfl (by omega) (fun q hq => by rw [List.mem_singleton.1 hq]; unfold in64; dsimp only; omega)
    (by rw [← hz]; exact one_pc (w.alloc (.cells #[.int .i64 0, .int .i64 3, .int .i64 12, .int .i64 0, .int .i64 31, .int .i64 0] 26)) 10 31 6000000 1000000 50)
  rw [awake_sal] at hs
  have HS := Lib.hid hs
  have HP := Lib.hid hp6b
  have HLo := Lib.hid (fun W => Loss_any 0 3 12 0 31 0 500000 9600 480 500000 W (by unfold in64; omega) (by unfold in64; omega))
  rw [awake_loss] at HLo
  have HH := Lib.hid (fun W => Hourly_any 6240000 2400 W)
  rw [awake_hour] at HH
  clear hs hp6 hp6b hz hb0
  go_enter Try.func11, Try.ntmps11
  go_wp2_with fail
  refine HS.out.mono ?_
  rintro e w1 ⟨rfl, hb2⟩
  obtain ⟨f0, f1, f2, f3, f4, f5⟩ := HP.out.kp hb2
  have hk := hb1.trans (hb2.mono hb1.size)
  go_wp2_with fail
  refine (HLo.out _).mono ?_
  rintro e w2 ⟨rfl, hb3⟩
  have hk3 := hk.trans (hb3.mono hk.size)
  go_wp2_with fail
  refine (HH.out _).mono ?_
  rintro e w3 ⟨rfl, hb4⟩
  have hk4 := hk3.trans (hb4.mono hk3.size)
  go_wp2
  go_ret
  exact ⟨rfl, hk4⟩

end Go.Proofs.Ytamglmenljgbdaa
