/-
  What is proved: the document's example of a week comes out as it says ('awake' of the statements returns true). Conditions: none.
-/
import Derived.Test.YtbgilplaefdhbaaDoorDkH
namespace Go.Proofs.YtbgilplaefdhbaaDoor
open Go Go.RowKit Go.Proofs
set_option linter.unusedVariables false

theorem stay {W W' : World} {a : Addr} {v : Value} (hb : Below W.heap.size W W') (x : W.cell? a = some v) : W'.cell? a = some v := (hb.cell (World.block_lt_of_cell? _ _ x)).trans x
/-- A pattern in its own block. -/
def PatBox (W : World) (g : Nat) (q : Nat → Int) (v : Value) : Prop := (∀ k, k < 7 → W.cell? ⟨g, k, none⟩ = some (.int .i64 (q k))) ∧ W.cell? ⟨g, 7, none⟩ = some v
theorem PatBox.below {W W' : World} {g : Nat} {q : Nat → Int} {v : Value} (h : PatBox W g q v) (hb : Below W.heap.size W W') : PatBox W' g q v := ⟨fun k hk => stay hb (h.1 k hk), stay hb h.2⟩
theorem PatBox.new (q : Nat → Int) (v : Value) (w : World) (t : TypeId) : PatBox (w.alloc (.cells #[.int .i64 (q 0), .int .i64 (q 1), .int .i64 (q 2), .int .i64 (q 3), .int .i64 (q 4), .int .i64 (q 5), .int .i64 (q 6), v] t)) w.heap.size q v := box8 q v w t
theorem PatBox.all {W : World} {g : Nat} {q : Nat → Int} {v : Value} (h : PatBox W g q v) : W.cell? ⟨g, 0, none⟩ = some (.int .i64 (q 0)) ∧ W.cell? ⟨g, 1, none⟩ = some (.int .i64 (q 1)) ∧ W.cell? ⟨g, 2, none⟩ = some (.int .i64 (q 2)) ∧ W.cell? ⟨g, 3, none⟩ = some (.int .i64 (q 3)) ∧ W.cell? ⟨g, 4, none⟩ = some (.int .i64 (q 4)) ∧ W.cell? ⟨g, 5, none⟩ = some (.int .i64 (q 5)) ∧ W.cell? ⟨g, 6, none⟩ = some (.int .i64 (q 6)) ∧ W.cell? ⟨g, 7, none⟩ = some v := by
  obtain ⟨a, b, c, d, e, f, g⟩ := seven h.1
  exact ⟨a, b, c, d, e, f, g, h.2⟩
theorem DaysIn.stay {W W' : World} {p : Option Addr} {F : List Int} (h : DaysIn W p F) (hb : Below W.heap.size W W') : DaysIn W' p F := h.below hb (Nat.le_refl _)

def qA : Nat → Int := fun i => if i < 5 then 480 else 0
theorem eM : minsV qA [19782] 19779 19786 = 1920 := by decide +kernel
theorem eD : daysV qA [19782] 19779 19786 = 4 := by decide +kernel
theorem eO1 : onV qA [19782] 19782 = 0 := by decide +kernel
theorem eO2 : onV qA [19782] 19783 = 480 := by decide +kernel
theorem PatBox.allA {W : World} {g : Nat} {v : Value} (h : PatBox W g qA v) : W.cell? ⟨g, 0, none⟩ = some (.int .i64 480) ∧ W.cell? ⟨g, 1, none⟩ = some (.int .i64 480) ∧ W.cell? ⟨g, 2, none⟩ = some (.int .i64 480) ∧ W.cell? ⟨g, 3, none⟩ = some (.int .i64 480) ∧ W.cell? ⟨g, 4, none⟩ = some (.int .i64 480) ∧ W.cell? ⟨g, 5, none⟩ = some (.int .i64 0) ∧ W.cell? ⟨g, 6, none⟩ = some (.int .i64 0) ∧ W.cell? ⟨g, 7, none⟩ = some v := h.all

set_option maxHeartbeats 1000000 in
set_option maxRecDepth 100000 in
theorem awake_any (w : World) : Calls Tryd.prog 7 #[] w fun e w' => e = .returned (.bool true) ∧ Below w.heap.size w w' := by
  have HM : Hid (∀ W, DaysIn W (some ⟨w.heap.size, 0, none⟩) [19782] → Calls Tryd.prog 14 #[.agg #[.int .i64 480, .int .i64 480, .int .i64 480, .int .i64 480, .int .i64 480, .int .i64 0, .int .i64 0, .slice (some ⟨w.heap.size, 0, none⟩) 1 1], .agg #[.int .i64 19779, .int .i64 19786]] W fun e w' => e = .returned (.int .i64 1920) ∧ Below W.heap.size W w') := Lib.hid (fun W h => by
    have := Minutes_any qA [19782] _ 1 19779 19786 W h (by decide)
    rw [eM] at this
    exact this)
  have HD : Hid (∀ W, DaysIn W (some ⟨w.heap.size, 0, none⟩) [19782] → Calls Tryd.prog 15 #[.agg #[.int .i64 480, .int .i64 480, .int .i64 480, .int .i64 480, .int .i64 480, .int .i64 0, .int .i64 0, .slice (some ⟨w.heap.size, 0, none⟩) 1 1], .agg #[.int .i64 19779, .int .i64 19786]] W fun e w' => e = .returned (.int .i64 4) ∧ Below W.heap.size W w') := Lib.hid (fun W h => by
    have := Days_any qA [19782] _ 1 19779 19786 W h (by decide)
    rw [eD] at this
    exact this)
  have HO : Hid (∀ W, DaysIn W (some ⟨w.heap.size, 0, none⟩) [19782] → Calls Tryd.prog 16 #[.agg #[.int .i64 480, .int .i64 480, .int .i64 480, .int .i64 480, .int .i64 480, .int .i64 0, .int .i64 0, .slice (some ⟨w.heap.size, 0, none⟩) 1 1], .int .i64 19782] W fun e w' => e = .returned (.int .i64 0) ∧ Below W.heap.size W w') := Lib.hid (fun W h => by
    have := On_any qA [19782] 19782 _ 1 W h
    rw [eO1] at this
    exact this)
  have HO2 : Hid (∀ W, DaysIn W (some ⟨w.heap.size, 0, none⟩) [19782] → Calls Tryd.prog 16 #[.agg #[.int .i64 480, .int .i64 480, .int .i64 480, .int .i64 480, .int .i64 480, .int .i64 0, .int .i64 0, .slice (some ⟨w.heap.size, 0, none⟩) 1 1], .int .i64 19783] W fun e w' => e = .returned (.int .i64 480) ∧ Below W.heap.size W w') := Lib.hid (fun W h => by
    have := On_any qA [19782] 19783 _ 1 W h
    rw [eO2] at this
    exact this)
  obtain ⟨W3, hW3⟩ : ∃ W3, W3 = ((w.alloc (.cells #[.int .i64 19782] 39)).alloc (.cells #[.int .i64 480, .int .i64 480, .int .i64 480, .int .i64 480, .int .i64 480, .int .i64 0, .int .i64 0, .slice (some ⟨w.heap.size, 0, none⟩) 1 1] 41)).alloc (.cells #[.int .i64 19779, .int .i64 19786] 43) := ⟨_, rfl⟩
  have hb0 : Below w.heap.size w W3 := by rw [hW3]; exact (((Below.refl w.heap.size w).alloc (Nat.le_refl _) _).alloc (by simp) _).alloc (by simp; omega) _
  have hz1 : (w.alloc (.cells #[.int .i64 19782] 39)).heap.size = w.heap.size + 1 := by simp
  have hz2 : ((w.alloc (.cells #[.int .i64 19782] 39)).alloc (.cells #[.int .i64 480, .int .i64 480, .int .i64 480, .int .i64 480, .int .i64 480, .int .i64 0, .int .i64 0, .slice (some ⟨w.heap.size, 0, none⟩) 1 1] 41)).heap.size = w.heap.size + 1 + 1 := by simp
  have d0 : DaysIn W3 (some ⟨w.heap.size, 0, none⟩) [19782] := .inr ⟨w.heap.size, 0, rfl, fun j hj => by
    have : j = 0 := by simpa using hj
    subst this
    rw [hW3, World.cell?_alloc_lt _ _ _ (by rw [hz2]; show w.heap.size + 0 < _; omega), World.cell?_alloc_lt _ _ _ (by rw [hz1]; show w.heap.size + 0 < _; omega), World.cell?_alloc_new]
    rfl⟩
  have hP : PatBox W3 (w.heap.size + 1) qA (.slice (some ⟨w.heap.size, 0, none⟩) 1 1) := by
    have := PatBox.new qA (.slice (some ⟨w.heap.size, 0, none⟩) 1 1) (w.alloc (.cells #[.int .i64 19782] 39)) 41
    rw [hz1] at this
    rw [hW3]
    exact this.below ((Below.refl _ _).alloc (Nat.le_refl _) _)
  have s0 : W3.cell? ⟨w.heap.size + 1 + 1, 0, none⟩ = some (.int .i64 19779) := by rw [hW3, ← hz2, World.cell?_alloc_new]; rfl
  have s1 : W3.cell? ⟨w.heap.size + 1 + 1, 1, none⟩ = some (.int .i64 19786) := by rw [hW3, ← hz2, World.cell?_alloc_new]; rfl
  clear hz1 hz2
  go_enter Tryd.func7, Tryd.ntmps7
  go_wp2_with fail
  rw [← hW3]
  clear hW3
  refine (HM.out _ d0).mono ?_
  rintro e w4 ⟨rfl, hb4⟩
  have d1 := d0.stay hb4
  have hP1 := hP.below hb4
  have s0' := stay hb4 s0
  have s1' := stay hb4 s1
  have hb5 := hb0.trans (hb4.mono hb0.size)
  obtain ⟨z0, z1, z2, z3, z4, z5, z6, z7⟩ := hP1.allA
  clear d0 hP s0 s1 hb0 hb4 HM
  go_wp2_with fail
  refine (HD.out _ d1).mono ?_
  rintro e w6 ⟨rfl, hb6⟩
  have d2 := d1.stay hb6
  have hP2 := hP1.below hb6
  have hb7 := hb5.trans (hb6.mono hb5.size)
  clear z0 z1 z2 z3 z4 z5 z6 z7 d1 hP1 s0' s1' hb5 hb6 HD
  obtain ⟨z0, z1, z2, z3, z4, z5, z6, z7⟩ := hP2.allA
  go_wp2_with fail
  refine (HO.out _ d2).mono ?_
  rintro e w8 ⟨rfl, hb8⟩
  have d3 := d2.stay hb8
  have hP3 := hP2.below hb8
  have hb9 := hb7.trans (hb8.mono hb7.size)
  clear z0 z1 z2 z3 z4 z5 z6 z7 d2 hP2 hb7 hb8 HO
  obtain ⟨z0, z1, z2, z3, z4, z5, z6, z7⟩ := hP3.allA
  go_wp2_with fail
  refine (HO2.out _ d3).mono ?_
  rintro e w10 ⟨rfl, hb10⟩
  have hb11 := hb9.trans (hb10.mono hb9.size)
  clear z0 z1 z2 z3 z4 z5 z6 z7
  go_wp2
  go_ret
  exact ⟨rfl, hb11⟩

end Go.Proofs.YtbgilplaefdhbaaDoor
