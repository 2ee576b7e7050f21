/-
  What is proved: the walk of the statement PeriodFinds: the call returns true. Conditions: the tables read as their texts lay them.
-/
import Derived.Test.YtafmcfjbmendjaaDoorPdZ
namespace Go.Proofs.YtafmcfjbmendjaaDoor
open Go Go.RowKit Go.Proofs
set_option linter.unusedVariables false

theorem new6 (w : World) (a b c d e f : Value) (t : TypeId) : (w.alloc (.cells #[a, b, c, d, e, f] t)).cell? ⟨w.heap.size, 0, none⟩ = some a ∧ (w.alloc (.cells #[a, b, c, d, e, f] t)).cell? ⟨w.heap.size, 1, none⟩ = some b ∧ (w.alloc (.cells #[a, b, c, d, e, f] t)).cell? ⟨w.heap.size, 2, none⟩ = some c ∧ (w.alloc (.cells #[a, b, c, d, e, f] t)).cell? ⟨w.heap.size, 3, none⟩ = some d ∧ (w.alloc (.cells #[a, b, c, d, e, f] t)).cell? ⟨w.heap.size, 4, none⟩ = some e ∧ (w.alloc (.cells #[a, b, c, d, e, f] t)).cell? ⟨w.heap.size, 5, none⟩ = some f := by
  refine ⟨?_, ?_, ?_, ?_, ?_, ?_⟩ <;> (rw [World.cell?_alloc_new]; rfl)

set_option maxHeartbeats 2000000 in
set_option maxRecDepth 100000 in
theorem walkPeriodFinds (k f l d : Int) (w : World) (wc : (-9223372036854775808 ≤ k ∧ k ≤ 9223372036854775807) ∧ (-9223372036854775808 ≤ f ∧ f ≤ 9223372036854775807) ∧ (-9223372036854775808 ≤ l ∧ l ≤ 9223372036854775807)) (w0 : (Lit.int .i64 d).wf = true) (hT : Tab3 w) :
    Calls Tryd.prog 5 #[.agg #[.int .i64 k, .int .i64 f, .int .i64 l], .int .i64 d] w fun e w' => e = .returned (.bool true) ∧ Below w.heap.size w w' := by
  have HO := Lib.hid (of_any k f l)
  have HF := Lib.hid (fun W hT => Find_any k f l d W hT)
  have HR := Lib.hid (fun W => rFind_any k f l d W)
  obtain ⟨W1, hW1⟩ : ∃ W1, W1 = w.alloc (.cells #[.int .i64 k, .int .i64 f, .int .i64 l] 24) := ⟨_, rfl⟩
  have hb0 : Below w.heap.size w W1 := by rw [hW1]; exact (Below.refl w.heap.size w).alloc (Nat.le_refl _) _
  have x0 : W1.cell? ⟨w.heap.size, 0, none⟩ = some (.int .i64 k) := by rw [hW1, World.cell?_alloc_new]; rfl
  have x1 : W1.cell? ⟨w.heap.size, 1, none⟩ = some (.int .i64 f) := by rw [hW1, World.cell?_alloc_new]; rfl
  have x2 : W1.cell? ⟨w.heap.size, 2, none⟩ = some (.int .i64 l) := by rw [hW1, World.cell?_alloc_new]; rfl
  have T1 := Lib.hid (hT.stay hb0)
  clear hT w0 wc
  go_enter Tryd.func5, Tryd.ntmps5
  go_wp2_with fail
  rw [← hW1]
  clear hW1
  refine (HF.out _ T1.out.1).mono ?_
  rintro e w2 ⟨y, i, n, a, b, p, E, rfl, hR1, hb2⟩
  have HR1 := Lib.hid hR1
  obtain ⟨W3, hW3⟩ : ∃ W3, W3 = w2.alloc (.cells #[.int .i64 y, .int .i64 i, .int .i64 n, .int .i64 a, .int .i64 b, .int .i64 p] 30) := ⟨_, rfl⟩
  have hb3 : Below w2.heap.size w2 W3 := by rw [hW3]; exact (Below.refl w2.heap.size w2).alloc (Nat.le_refl _) _
  have hc := new6 w2 (.int .i64 y) (.int .i64 i) (.int .i64 n) (.int .i64 a) (.int .i64 b) (.int .i64 p) 30
  rw [← hW3] at hc
  obtain ⟨c0, c1, c2, c3, c4, c5⟩ := hc
  have hb23 := hb2.trans (hb3.mono hb2.size)
  have y0 := stay hb23 x0
  have y1 := stay hb23 x1
  have y2 := stay hb23 x2
  have T3 := Lib.hid (T1.out.stay hb23)
  have hb4 := hb0.trans (hb23.mono hb0.size)
  clear hR1 hb0 hb2 hb3 hb23 x0 x1 x2 T1 HF
  rw [hW3] at c0 c1 c2 c3 c4 c5 y0 y1 y2
  go_wp2_with fail
  rw [← hW3] at c0 c1 c2 c3 c4 c5 y0 y1 y2 ⊢
  clear hW3
  refine (HO.out _).mono ?_
  rintro e w4 ⟨rfl, hb5⟩
  go_wp2_with fail
  refine (HR.out _).mono ?_
  rintro e w5 ⟨y', i', n', a', b', p', E', rfl, hR2, hb6⟩
  obtain ⟨rfl, rfl, rfl, rfl, rfl, rfl, rfl⟩ := HR1.out.one hR2
  have hb56 := hb5.trans (hb6.mono hb5.size)
  obtain ⟨W6, hW6⟩ : ∃ W6, W6 = w5.alloc (.cells #[.int .i64 y, .int .i64 i, .int .i64 n, .int .i64 a, .int .i64 b, .int .i64 p] 48) := ⟨_, rfl⟩
  have hb7 : Below w5.heap.size w5 W6 := by rw [hW6]; exact (Below.refl w5.heap.size w5).alloc (Nat.le_refl _) _
  have hc := new6 w5 (.int .i64 y) (.int .i64 i) (.int .i64 n) (.int .i64 a) (.int .i64 b) (.int .i64 p) 48
  rw [← hW6] at hc
  obtain ⟨v0, v1, v2, v3, v4, v5⟩ := hc
  have hb57 := hb56.trans (hb7.mono hb56.size)
  have u0 := stay hb57 c0
  have u1 := stay hb57 c1
  have u2 := stay hb57 c2
  have u3 := stay hb57 c3
  have u4 := stay hb57 c4
  have u5 := stay hb57 c5
  have T6 := Lib.hid (T3.out.stay hb57)
  have hb8 := hb4.trans (hb57.mono hb4.size)
  clear hR2 HR1 c0 c1 c2 c3 c4 c5 y0 y1 y2 hb4 hb5 hb6 hb56 hb7 hb57 T3 HR HO
  go_wp2_with fail
  rw [← hW6]
  clear hW6
  refine (awake_any _ T6.out).mono ?_
  rintro e w9 ⟨rfl, hb9⟩
  have hb10 := hb8.trans (hb9.mono hb8.size)
  have m0 := stay hb9 u0
  have m1 := stay hb9 u1
  have m2 := stay hb9 u2
  have m3 := stay hb9 u3
  have m4 := stay hb9 u4
  have m5 := stay hb9 u5
  have q0 := stay hb9 v0
  have q1 := stay hb9 v1
  have q2 := stay hb9 v2
  have q3 := stay hb9 v3
  have q4 := stay hb9 v4
  have q5 := stay hb9 v5
  clear u0 u1 u2 u3 u4 u5 v0 v1 v2 v3 v4 v5 hb8 hb9 T6
  go_wp2
  go_ret
  exact ⟨by simp, hb10⟩

end Go.Proofs.YtafmcfjbmendjaaDoor
