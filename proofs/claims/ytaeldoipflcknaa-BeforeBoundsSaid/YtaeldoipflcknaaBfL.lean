/-
  What is proved: the contract of the statements' own awake: the document's examples are answered. Conditions: none.
-/
import Derived.Test.YtaeldoipflcknaaBfK
namespace Go.Proofs.Ytaeldoipflcknaa
open Go Go.RowKit Go.Lib Go.Proofs
set_option linter.unusedVariables false

set_option maxHeartbeats 4000000 in
set_option maxRecDepth 100000 in
theorem awake_any (w : World) : Calls Try.prog 11 #[] w fun e w' => e = .returned (.bool true) ∧ Below w.heap.size w w' := by
  obtain ⟨W2, hW2⟩ : ∃ W2, W2 = (w.alloc (.cells #[.string pen, .int .i64 30000] 43)).alloc (.cells #[.string pen, .int .i64 100000, .int .i64 0] 47) := ⟨_, rfl⟩
  have hb2 : Below w.heap.size w W2 := by rw [hW2]; exact ((Below.refl _ _).alloc (Nat.le_refl _) _).alloc (by simp) _
  have hz2 : W2.heap.size = w.heap.size + 2 := by rw [hW2]; simp
  have hIt : ItLs W2 (some ⟨w.heap.size, 0, none⟩) exW := .inr ⟨w.heap.size, 0, rfl, by omega, fun j hj => by
    obtain rfl : j = 0 := by have : exW.length = 1 := rfl; omega
    rw [hW2]
    refine ⟨?_, ?_⟩
    · rw [World.cell?_alloc_lt _ _ _ (by simp), World.cell?_alloc_new]; rfl
    · rw [World.cell?_alloc_lt _ _ _ (by simp), World.cell?_alloc_new]; rfl⟩
  have hLm : LmLs W2 (some ⟨w.heap.size + 1, 0, none⟩) exL := .inr ⟨w.heap.size + 1, 0, rfl, by omega, fun j hj => by
    obtain rfl : j = 0 := by have : exL.length = 1 := rfl; omega
    have e : (w.alloc (.cells #[.string pen, .int .i64 30000] 43)).heap.size = w.heap.size + 1 := by simp
    rw [hW2, ← e]
    refine ⟨?_, ?_, ?_⟩ <;> (rw [World.cell?_alloc_new]; rfl)⟩
  have sz1 : pen.size ≤ maxLen := by decide
  have HT := Lib.hid (take_any 100000 none [] (some ⟨w.heap.size, 0, none⟩) 1 exW (some ⟨w.heap.size + 1, 0, none⟩) 1 exL W2 (by simp) (by decide) (by decide)
    (fun k hk => by obtain rfl : k = 0 := by have : exW.length = 1 := rfl; omega
                    exact sz1) (fun k hk => by obtain rfl : k = 0 := by have : exL.length = 1 := rfl; omega
                                               exact sz1) (.inl ⟨rfl, rfl⟩) hIt hLm)
  rw [show exW.length = 1 from rfl, show exL.length = 1 from rfl] at HT
  clear hIt hLm
  go_enter Try.func11, Try.ntmps11
  go_wp2_with fail
  rw [show (ByteArray.mk #[112, 101, 110, 115, 105, 111, 110]) = pen from rfl, ← hW2]
  clear hW2
  refine (HT.out).mono ?_
  rintro e w3 ⟨hc, hb3⟩
  obtain ⟨t1, t2, t3⟩ := ex_take
  rcases hc with ⟨h, -⟩ | ⟨-, v, b, rfl, hO, hM, hb9⟩
  · exact absurd t1 h
  rw [t2] at hO
  rw [t3] at hM
  obtain ⟨p3, c3, rfl, hls⟩ := hO.ls
  rcases hls with h | ⟨b3, o3, rfl, hb39, hcell⟩
  · exact absurd h (by decide)
  have k0 := (hcell 0 (by decide)).2
  rw [show ([(pen, (10000 : Int))].getD 0 d0).2 = 10000 from rfl] at k0
  have hB3 := hb2.trans (hb3.mono hb2.size)
  rw [show [(pen, (10000 : Int))].length = 1 from rfl]
  clear hcell hO HT hb3 t1 t2 t3
  obtain ⟨W4, hW4⟩ : ∃ W4, W4 = w3.alloc (.cells #[.string ⟨#[97]⟩, .int .i64 3000, .string ⟨#[98]⟩, .int .i64 3000] 43) := ⟨_, rfl⟩
  have hb4 : Below w3.heap.size w3 W4 := by rw [hW4]; exact (Below.refl _ _).alloc (Nat.le_refl _) _
  have hz4 : W4.heap.size = w3.heap.size + 1 := by rw [hW4]; simp
  have hIt4 : ItLs W4 (some ⟨w3.heap.size, 0, none⟩) exA := .inr ⟨w3.heap.size, 0, rfl, by omega, fun j hj => by
    have : exA.length = 2 := rfl
    rw [hW4]
    obtain rfl | rfl : j = 0 ∨ j = 1 := by omega
    all_goals (refine ⟨?_, ?_⟩ <;> (rw [World.cell?_alloc_new]; rfl))⟩
  have HA := Lib.hid (after_any 5000 (some ⟨w3.heap.size, 0, none⟩) 2 exA W4 (by decide) (by omega) (by omega) hIt4)
  rw [show exA.length = 2 from rfl] at HA
  clear hIt4
  go_wp2_with fail
  rw [← hW4]
  clear hW4
  refine (HA.out).mono ?_
  rintro e w5 ⟨⟨v5, he5, hO5⟩, hb5⟩
  rw [ex_after] at he5 hO5
  subst he5
  obtain ⟨p5, c5, rfl, hls5⟩ := hO5.ls
  rcases hls5 with h | ⟨b5, o5, rfl, hb59, hcell5⟩
  · exact absurd h (by decide)
  have k1 := (hcell5 1 (by decide)).2
  rw [show ([((⟨#[97]⟩ : ByteArray), (3000 : Int)), (⟨#[98]⟩, 2000)].getD 1 d0).2 = 2000 from rfl] at k1
  rw [show [((⟨#[97]⟩ : ByteArray), (3000 : Int)), (⟨#[98]⟩, 2000)].length = 2 from rfl]
  have hbb : Below w3.heap.size w3 w5 := hb4.trans (hb5.mono hb4.size)
  have k0' := (hbb.cell (p := ⟨b3, o3 + 0 * 2 + 1, none⟩) hb39).trans k0
  have hlk : (Instr.lookup 30 (.map (some b)) (.string ⟨#[112, 101, 110, 115, 105, 111, 110]⟩) false).run Try.prog w5 = .ok (.int .i64 10000) w5 := by
    have := (hM.below hbb).look Try.underlying30 (zCt w5) sz1
    rw [vT_lk] at this
    exact this
  have hB5 := hB3.trans (hbb.mono hB3.size)
  rw [Nat.zero_mul, Nat.add_zero] at k0'
  rw [Nat.one_mul] at k1
  clear hcell5 hO5 HA hb4 hb5 hbb k0 hM hB3 hz2 hz4 hb2
  go_wp2
  go_ret
  exact ⟨rfl, hB5⟩

end Go.Proofs.Ytaeldoipflcknaa
