/-
  What is proved: the contracts of has and of Next of a calendar. Conditions: the tables read as their texts lay them.
-/
import Derived.Test.YtfmabjfibjnkoaaDoorPdG
namespace Go.Proofs.YtfmabjfibjnkoaaDoor
open Go Go.RowKit Go.Proofs
set_option linter.unusedVariables false

theorem new6 (w : World) (a b c d e f : Value) (t : TypeId) : (w.alloc (.cells #[a, b, c, d, e, f] t)).cell? ⟨w.heap.size, 0, none⟩ = some a ∧ (w.alloc (.cells #[a, b, c, d, e, f] t)).cell? ⟨w.heap.size, 1, none⟩ = some b ∧ (w.alloc (.cells #[a, b, c, d, e, f] t)).cell? ⟨w.heap.size, 2, none⟩ = some c ∧ (w.alloc (.cells #[a, b, c, d, e, f] t)).cell? ⟨w.heap.size, 3, none⟩ = some d ∧ (w.alloc (.cells #[a, b, c, d, e, f] t)).cell? ⟨w.heap.size, 4, none⟩ = some e ∧ (w.alloc (.cells #[a, b, c, d, e, f] t)).cell? ⟨w.heap.size, 5, none⟩ = some f := by
  refine ⟨?_, ?_, ?_, ?_, ?_, ?_⟩ <;> (rw [World.cell?_alloc_new]; rfl)
/-- A period's six cells in memory. -/
def PerAt (w : World) (g : Nat) (y i n a b p : Int) : Prop := w.cell? ⟨g, 0, none⟩ = some (.int .i64 y) ∧ w.cell? ⟨g, 1, none⟩ = some (.int .i64 i) ∧ w.cell? ⟨g, 2, none⟩ = some (.int .i64 n) ∧ w.cell? ⟨g, 3, none⟩ = some (.int .i64 a) ∧ w.cell? ⟨g, 4, none⟩ = some (.int .i64 b) ∧ w.cell? ⟨g, 5, none⟩ = some (.int .i64 p)
theorem PerAt.stay {w w' : World} {g : Nat} {y i n a b p : Int} (h : PerAt w g y i n a b p) (hb : Below w.heap.size w w') : PerAt w' g y i n a b p := by
  obtain ⟨a0, a1, a2, a3, a4, a5⟩ := h
  exact ⟨YtfmabjfibjnkoaaDoor.stay hb a0, YtfmabjfibjnkoaaDoor.stay hb a1, YtfmabjfibjnkoaaDoor.stay hb a2, YtfmabjfibjnkoaaDoor.stay hb a3, YtfmabjfibjnkoaaDoor.stay hb a4, YtfmabjfibjnkoaaDoor.stay hb a5⟩
/-- A calendar's three cells in memory. -/
def CalAt (w : World) (g : Nat) (k f l : Int) : Prop := w.cell? ⟨g, 0, none⟩ = some (.int .i64 k) ∧ w.cell? ⟨g, 1, none⟩ = some (.int .i64 f) ∧ w.cell? ⟨g, 2, none⟩ = some (.int .i64 l)
theorem CalAt.stay {w w' : World} {g : Nat} {k f l : Int} (h : CalAt w g k f l) (hb : Below w.heap.size w w') : CalAt w' g k f l := by
  obtain ⟨a0, a1, a2⟩ := h
  exact ⟨YtfmabjfibjnkoaaDoor.stay hb a0, YtfmabjfibjnkoaaDoor.stay hb a1, YtfmabjfibjnkoaaDoor.stay hb a2⟩
theorem calper (w : World) (k f l y i n a b p : Int) (t u : TypeId) : ∃ W1, W1 = (w.alloc (.cells #[.int .i64 k, .int .i64 f, .int .i64 l] t)).alloc (.cells #[.int .i64 y, .int .i64 i, .int .i64 n, .int .i64 a, .int .i64 b, .int .i64 p] u) ∧ Below w.heap.size w W1 ∧ CalAt W1 w.heap.size k f l ∧ PerAt W1 (w.heap.size + 1) y i n a b p ∧ W1.heap.size = w.heap.size + 2 := by
  have hza : (w.alloc (.cells #[.int .i64 k, .int .i64 f, .int .i64 l] t)).heap.size = w.heap.size + 1 := by simp
  refine ⟨_, rfl, ((Below.refl w.heap.size w).alloc (Nat.le_refl _) _).alloc (by simp) _, ⟨?_, ?_, ?_⟩, ?_, by simp⟩
  · rw [World.cell?_alloc_lt _ _ _ (by rw [hza]; show w.heap.size < _; omega), World.cell?_alloc_new]; rfl
  · rw [World.cell?_alloc_lt _ _ _ (by rw [hza]; show w.heap.size < _; omega), World.cell?_alloc_new]; rfl
  · rw [World.cell?_alloc_lt _ _ _ (by rw [hza]; show w.heap.size < _; omega), World.cell?_alloc_new]; rfl
  · rw [← hza]
    exact new6 _ _ _ _ _ _ _ _
theorem res6_new (w : World) (t : TypeId) : Res6 (w.alloc (.cells #[.int .i64 0, .int .i64 0, .int .i64 0, .int .i64 0, .int .i64 0, .int .i64 0] t)) w.heap.size := by
  refine ⟨fun j hj => ?_, fun j => by simp⟩
  rw [World.cell?_alloc_new]
  have e : j = 0 ∨ j = 1 ∨ j = 2 ∨ j = 3 ∨ j = 4 ∨ j = 5 := by omega
  rcases e with rfl | rfl | rfl | rfl | rfl | rfl <;> rfl
/-- One of a right calendar's periods. -/
def Owned (k f l y i n a b p : Int) : Prop := chkC k f l = 0 ∧ OwnP k f l y i n a b p
def HasPost (k f l y i n a b p : Int) (w : World) (e : Ending) (w' : World) : Prop := ∃ r : Bool, e = .returned (.bool r) ∧ (r = true ↔ Owned k f l y i n a b p) ∧ Below w.heap.size w w'
theorem Owned.found {k f l y i n a b p d y' i' n' a' b' p' E : Int} (h : Owned k f l y i n a b p) (h1 : a ≤ d) (h2 : d < b) (hR : FindR k f l d y' i' n' a' b' p' E) : y' = y ∧ i' = i ∧ n' = n ∧ a' = a ∧ b' = b ∧ p' = p ∧ E = 0 :=
  hR.one (h.2.found h.1 h1 h2)
theorem Owned.len {k f l y i n a b p : Int} (h : Owned k f l y i n a b p) : a < b ∧ -25567 ≤ a ∧ b ≤ 84006 := ends_day h.2.ends

set_option maxHeartbeats 4000000 in
set_option maxRecDepth 100000 in
theorem has_any (k f l y i n a b p : Int) (w : World) (hT : Tabs w) : Calls Tryd.prog 32 #[.agg #[.int .i64 k, .int .i64 f, .int .i64 l], .agg #[.int .i64 y, .int .i64 i, .int .i64 n, .int .i64 a, .int .i64 b, .int .i64 p]] w (HasPost k f l y i n a b p w) := by
  obtain ⟨W1, hW1, hb0, hc0, hp0, hz⟩ := calper w k f l y i n a b p 24 30
  have HF := Lib.hid (Find_any k f l a W1 (hT.stay hb0))
  obtain ⟨x0, x1, x2⟩ := hc0
  have hp1 := hp0
  obtain ⟨p0, p1, p2, p3, p4, p5⟩ := hp0
  have HP0 := Lib.hid hp1
  clear hT hz hp1
  go_enter Tryd.func32, Tryd.ntmps32
  go_wp2_with fail
  rw [← hW1]
  clear hW1
  refine (HF.out).mono ?_
  rintro e w2 ⟨y', i', n', a', b', p', E, rfl, hR, hb2⟩
  have hb3 : Below w2.heap.size w2 (w2.alloc (.cells #[.int .i64 y', .int .i64 i', .int .i64 n', .int .i64 a', .int .i64 b', .int .i64 p'] 30)) := (Below.refl w2.heap.size w2).alloc (Nat.le_refl _) _
  have hb23 := hb2.trans (hb3.mono hb2.size)
  have hb4 := hb0.trans (hb23.mono hb0.size)
  obtain ⟨v0, v1, v2, v3, v4, v5⟩ := new6 w2 (.int .i64 y') (.int .i64 i') (.int .i64 n') (.int .i64 a') (.int .i64 b') (.int .i64 p') 30
  obtain ⟨u0, u1, u2, u3, u4, u5⟩ := HP0.out.stay hb23
  have HN : Hid (Owned k f l y i n a b p → y' = y ∧ i' = i ∧ n' = n ∧ a' = a ∧ b' = b ∧ p' = p ∧ E = 0) := Lib.hid (fun h => h.found (Int.le_refl _) h.len.1 hR)
  have HY : Hid (E = 0 → Owned k f l y' i' n' a' b' p') := Lib.hid (fun h => ⟨(hR.own h).1, (hR.own h).2.2.1⟩)
  clear hR hb0 hb2 hb3 hb23 p0 p1 p2 p3 p4 p5 x0 x1 x2 HP0 HF
  by_cases hE : E = 0
  · subst hE
    by_cases g0 : y' = y
    rotate_left
    · have e0 : (y' == y) = false := by simpa using g0
      have HO : Hid (∀ w', Below w.heap.size w w' → HasPost k f l y i n a b p w (.returned (.bool false)) w') := Lib.hid (fun w' hb => ⟨false, rfl, ⟨fun h => by simp at h, fun h => absurd (HN.out h).1 g0⟩, hb⟩)
      clear g0 HN HY
      go_wp2
      go_ret
      exact HO.out _ hb4
    replace g0 := g0.symm
    subst g0
    by_cases g1 : i' = i
    rotate_left
    · have e0 : (i' == i) = false := by simpa using g1
      have HO : Hid (∀ w', Below w.heap.size w w' → HasPost k f l y i n a b p w (.returned (.bool false)) w') := Lib.hid (fun w' hb => ⟨false, rfl, ⟨fun h => by simp at h, fun h => absurd (HN.out h).2.1 g1⟩, hb⟩)
      clear g1 HN HY
      go_wp2
      go_ret
      exact HO.out _ hb4
    replace g1 := g1.symm
    subst g1
    by_cases g2 : n' = n
    rotate_left
    · have e0 : (n' == n) = false := by simpa using g2
      have HO : Hid (∀ w', Below w.heap.size w w' → HasPost k f l y i n a b p w (.returned (.bool false)) w') := Lib.hid (fun w' hb => ⟨false, rfl, ⟨fun h => by simp at h, fun h => absurd (HN.out h).2.2.1 g2⟩, hb⟩)
      clear g2 HN HY
      go_wp2
      go_ret
      exact HO.out _ hb4
    replace g2 := g2.symm
    subst g2
    by_cases g3 : a' = a
    rotate_left
    · have e0 : (a' == a) = false := by simpa using g3
      have HO : Hid (∀ w', Below w.heap.size w w' → HasPost k f l y i n a b p w (.returned (.bool false)) w') := Lib.hid (fun w' hb => ⟨false, rfl, ⟨fun h => by simp at h, fun h => absurd (HN.out h).2.2.2.1 g3⟩, hb⟩)
      clear g3 HN HY
      go_wp2
      go_ret
      exact HO.out _ hb4
    replace g3 := g3.symm
    subst g3
    by_cases g4 : b' = b
    rotate_left
    · have e0 : (b' == b) = false := by simpa using g4
      have HO : Hid (∀ w', Below w.heap.size w w' → HasPost k f l y i n a b p w (.returned (.bool false)) w') := Lib.hid (fun w' hb => ⟨false, rfl, ⟨fun h => by simp at h, fun h => absurd (HN.out h).2.2.2.2.1 g4⟩, hb⟩)
      clear g4 HN HY
      go_wp2
      go_ret
      exact HO.out _ hb4
    replace g4 := g4.symm
    subst g4
    by_cases g5 : p' = p
    rotate_left
    · have e0 : (p' == p) = false := by simpa using g5
      have HO : Hid (∀ w', Below w.heap.size w w' → HasPost k f l y i n a b p w (.returned (.bool false)) w') := Lib.hid (fun w' hb => ⟨false, rfl, ⟨fun h => by simp at h, fun h => absurd (HN.out h).2.2.2.2.2.1 g5⟩, hb⟩)
      clear g5 HN HY
      go_wp2
      go_ret
      exact HO.out _ hb4
    replace g5 := g5.symm
    subst g5
    have HO : Hid (∀ w', Below w.heap.size w w' → HasPost k f l y i n a b p w (.returned (.bool true)) w') := Lib.hid (fun w' hb => ⟨true, rfl, ⟨fun _ => HY.out rfl, fun _ => rfl⟩, hb⟩)
    clear HN HY
    go_wp2
    go_ret
    exact HO.out _ hb4
  · have e1 : (E == 0) = false := by simpa using hE
    have HO : Hid (∀ w', Below w.heap.size w w' → HasPost k f l y i n a b p w (.returned (.bool false)) w') := Lib.hid (fun w' hb => ⟨false, rfl, ⟨fun h => by simp at h, fun h => absurd (HN.out h).2.2.2.2.2.2 hE⟩, hb⟩)
    clear hE HN HY
    go_wp2
    go_ret
    exact HO.out _ hb4

/-- What Next tells. -/
def NextR (k f l y i n a b p y' i' n' a' b' p' e : Int) : Prop :=
  (chkC k f l ≠ 0 ∧ e = chkC k f l ∧ y' = 0 ∧ i' = 0 ∧ n' = 0 ∧ a' = 0 ∧ b' = 0 ∧ p' = 0) ∨
  (chkC k f l = 0 ∧ ¬ Owned k f l y i n a b p ∧ e = 6 ∧ y' = 0 ∧ i' = 0 ∧ n' = 0 ∧ a' = 0 ∧ b' = 0 ∧ p' = 0) ∨
  (Owned k f l y i n a b p ∧ (∃ z0 z1 z2 z3 z4 z5 E : Int, FindR k f l b z0 z1 z2 z3 z4 z5 E ∧ E ≠ 0) ∧ e = 6 ∧ y' = 0 ∧ i' = 0 ∧ n' = 0 ∧ a' = 0 ∧ b' = 0 ∧ p' = 0) ∨
  (Owned k f l y i n a b p ∧ FindR k f l b y' i' n' a' b' p' 0 ∧ e = 0)
theorem NextR.one {k f l y i n a b p y' i' n' a' b' p' e z0 z1 z2 z3 z4 z5 E : Int} (h : NextR k f l y i n a b p y' i' n' a' b' p' e) (h' : NextR k f l y i n a b p z0 z1 z2 z3 z4 z5 E) : y' = z0 ∧ i' = z1 ∧ n' = z2 ∧ a' = z3 ∧ b' = z4 ∧ p' = z5 ∧ e = E := by
  rcases h with ⟨hc, rfl, rfl, rfl, rfl, rfl, rfl, rfl⟩ | ⟨hc, hd, rfl, rfl, rfl, rfl, rfl, rfl, rfl⟩ | ⟨hc, ⟨t0, t1, t2, t3, t4, t5, t6, tR, tn⟩, rfl, rfl, rfl, rfl, rfl, rfl, rfl⟩ | ⟨hc, hd, rfl⟩ <;>
    rcases h' with ⟨hc', rfl, rfl, rfl, rfl, rfl, rfl, rfl⟩ | ⟨hc', hd', rfl, rfl, rfl, rfl, rfl, rfl, rfl⟩ | ⟨hc', ⟨s0, s1, s2, s3, s4, s5, s6, sR, sn⟩, rfl, rfl, rfl, rfl, rfl, rfl, rfl⟩ | ⟨hc', hd', rfl⟩ <;>
    first
    | exact ⟨rfl, rfl, rfl, rfl, rfl, rfl, rfl⟩
    | exact absurd hc' hc
    | exact absurd hc hc'
    | exact absurd hc'.1 hc
    | exact absurd hc.1 hc'
    | exact absurd hc' hd
    | exact absurd hc hd'
    | exact absurd (tR.one hd').2.2.2.2.2.2 tn
    | exact absurd (sR.one hd).2.2.2.2.2.2 sn
    | exact hd.one hd'
def NextPost (k f l y i n a b p : Int) (w : World) (e : Ending) (w' : World) : Prop :=
  ∃ y' i' n' a' b' p' e' : Int, e = .returned (.tuple #[.agg #[.int .i64 y', .int .i64 i', .int .i64 n', .int .i64 a', .int .i64 b', .int .i64 p'], .int .i64 e']) ∧ NextR k f l y i n a b p y' i' n' a' b' p' e' ∧ Below w.heap.size w w'

set_option maxHeartbeats 4000000 in
set_option maxRecDepth 100000 in
theorem Next_any (k f l y i n a b p : Int) (w : World) (hT : Tabs w) : Calls Tryd.prog 20 #[.agg #[.int .i64 k, .int .i64 f, .int .i64 l], .agg #[.int .i64 y, .int .i64 i, .int .i64 n, .int .i64 a, .int .i64 b, .int .i64 p]] w (NextPost k f l y i n a b p w) := by
  obtain ⟨W0, hW0, hb00, hc00, hp00, hz⟩ := calper w k f l y i n a b p 24 30
  obtain ⟨W1, hW1⟩ : ∃ W1, W1 = W0.alloc (.cells #[.int .i64 0, .int .i64 0, .int .i64 0, .int .i64 0, .int .i64 0, .int .i64 0] 30) := ⟨_, rfl⟩
  have hbx : Below W0.heap.size W0 W1 := by rw [hW1]; exact (Below.refl _ _).alloc (Nat.le_refl _) _
  have hb0 := hb00.trans (hbx.mono hb00.size)
  have hR1 : Res6 W1 (w.heap.size + 2) := by rw [hW1, ← hz]; exact res6_new _ _
  have HC0 := Lib.hid (hc00.stay hbx)
  have HP0 := Lib.hid (hp00.stay hbx)
  rw [hW0] at hW1
  have T1 := Lib.hid (hT.stay hb0)
  have HC := Check_any k f l W1 T1.out.1
  have HH := Lib.hid (fun W hT => has_any k f l y i n a b p W hT)
  have HF := Lib.hid (fun W hT => Find_any k f l b W hT)
  obtain ⟨x0, x1, x2⟩ := HC0.out
  obtain ⟨p0, p1, p2, p3, p4, p5⟩ := HP0.out
  clear hT hz hW0 hb00 hc00 hp00 hbx
  by_cases hc : chkC k f l = 0
  · rw [hc] at HC
    have HC := Lib.hid HC
    have HCZ := Lib.hid hc
    clear hc
    go_enter Tryd.func20, Tryd.ntmps20
    go_wp2_with fail
    rw [← hW1]
    clear hW1
    refine (HC.out).mono ?_
    rintro e w2 ⟨rfl, hb2⟩
    have hR2 := hR1.below hb2
    have HC2 := Lib.hid (HC0.out.stay hb2)
    have HP2 := Lib.hid (HP0.out.stay hb2)
    have T2 := Lib.hid (T1.out.stay hb2)
    have hb3 := hb0.trans (hb2.mono hb0.size)
    clear x0 x1 x2 p0 p1 p2 p3 p4 p5 hR1 hb0 hb2 HC0 HP0 T1 HC
    obtain ⟨x0, x1, x2⟩ := HC2.out
    obtain ⟨p0, p1, p2, p3, p4, p5⟩ := HP2.out
    go_wp2_with fail
    refine (HH.out _ T2.out).mono ?_
    rintro e w4 ⟨r, rfl, hr, hb4⟩
    have hR4 := hR2.below hb4
    have HC4 := Lib.hid (HC2.out.stay hb4)
    have HP4 := Lib.hid (HP2.out.stay hb4)
    have T4 := Lib.hid (T2.out.stay hb4)
    have hb5 := hb3.trans (hb4.mono hb3.size)
    clear x0 x1 x2 p0 p1 p2 p3 p4 p5 hR2 hb3 hb4 HC2 HP2 T2 HH
    obtain ⟨x0, x1, x2⟩ := HC4.out
    obtain ⟨p0, p1, p2, p3, p4, p5⟩ := HP4.out
    cases r with
    | false =>
      have HO : Hid (∀ w', Below w.heap.size w w' → NextPost k f l y i n a b p w (.returned (.tuple #[.agg #[.int .i64 0, .int .i64 0, .int .i64 0, .int .i64 0, .int .i64 0, .int .i64 0], .int .i64 6])) w') := Lib.hid (fun w' hb => ⟨0, 0, 0, 0, 0, 0, 6, rfl, .inr (.inl ⟨HCZ.out, fun h => (by have := hr.2 h; simp at this), rfl, rfl, rfl, rfl, rfl, rfl, rfl⟩), hb⟩)
      clear hr x0 x1 x2 p0 p1 p2 p3 p4 p5
      obtain ⟨⟨a0, a1, a2, a3, a4, a5⟩, ⟨b0, b1, b2, b3, b4, b5⟩⟩ := hR4.all
      obtain ⟨q0, q1, q2, q3, q4, q5⟩ := hR4.set (.int .i64 0) (.int .i64 0) (.int .i64 0) (.int .i64 0) (.int .i64 0) (.int .i64 0)
      have hbF := set6_below hb5 (show w.heap.size ≤ w.heap.size + 2 by omega) (.int .i64 0) (.int .i64 0) (.int .i64 0) (.int .i64 0) (.int .i64 0) (.int .i64 0)
      go_wp2
      exact bodyPost_ret (v := .tuple #[.agg #[.int .i64 0, .int .i64 0, .int .i64 0, .int .i64 0, .int .i64 0, .int .i64 0], .int .i64 6]) (by simp [results, Tryd.results20, go_sem, q0, q1, q2, q3, q4, q5]) rfl (HO.out _ hbF)
    | true =>
      have HOW := Lib.hid (hr.1 rfl)
      clear hr
      go_wp2_with fail
      refine (HF.out _ T4.out).mono ?_
      rintro e w6 ⟨y', i', n', a', b', p', E, rfl, hR, hb6⟩
      have hR6 := hR4.below hb6
      have hb7 := hb5.trans (hb6.mono hb5.size)
      have HR := Lib.hid hR
      have hbn : Below w6.heap.size w6 (w6.alloc (.cells #[.int .i64 y', .int .i64 i', .int .i64 n', .int .i64 a', .int .i64 b', .int .i64 p'] 30)) := (Below.refl _ _).alloc (Nat.le_refl _) _
      have hR8 := hR6.below hbn
      have hb9 := hb7.trans (hbn.mono hb7.size)
      obtain ⟨v0, v1, v2, v3, v4, v5⟩ := new6 w6 (.int .i64 y') (.int .i64 i') (.int .i64 n') (.int .i64 a') (.int .i64 b') (.int .i64 p') 30
      clear x0 x1 x2 p0 p1 p2 p3 p4 p5 hR4 hb5 hb6 hb7 hbn HC4 HP4 T4 HF hR hR6
      by_cases hE : E = 0
      · subst hE
        have HO : Hid (∀ w', Below w.heap.size w w' → NextPost k f l y i n a b p w (.returned (.tuple #[.agg #[.int .i64 y', .int .i64 i', .int .i64 n', .int .i64 a', .int .i64 b', .int .i64 p'], .int .i64 0])) w') := Lib.hid (fun w' hb => ⟨y', i', n', a', b', p', 0, rfl, .inr (.inr (.inr ⟨HOW.out, HR.out, rfl⟩)), hb⟩)
        obtain ⟨⟨a0, a1, a2, a3, a4, a5⟩, ⟨b0, b1, b2, b3, b4, b5⟩⟩ := hR8.all
        obtain ⟨q0, q1, q2, q3, q4, q5⟩ := hR8.set (.int .i64 y') (.int .i64 i') (.int .i64 n') (.int .i64 a') (.int .i64 b') (.int .i64 p')
        have hbF := set6_below hb9 (show w.heap.size ≤ w.heap.size + 2 by omega) (.int .i64 y') (.int .i64 i') (.int .i64 n') (.int .i64 a') (.int .i64 b') (.int .i64 p')
        go_wp2
        exact bodyPost_ret (v := .tuple #[.agg #[.int .i64 y', .int .i64 i', .int .i64 n', .int .i64 a', .int .i64 b', .int .i64 p'], .int .i64 0]) (by simp [results, Tryd.results20, go_sem, q0, q1, q2, q3, q4, q5]) rfl (HO.out _ hbF)
      · have e1 : (E != 0) = true := by simpa using hE
        have HO : Hid (∀ w', Below w.heap.size w w' → NextPost k f l y i n a b p w (.returned (.tuple #[.agg #[.int .i64 0, .int .i64 0, .int .i64 0, .int .i64 0, .int .i64 0, .int .i64 0], .int .i64 6])) w') := Lib.hid (fun w' hb => ⟨0, 0, 0, 0, 0, 0, 6, rfl, .inr (.inr (.inl ⟨HOW.out, ⟨_, _, _, _, _, _, _, HR.out, hE⟩, rfl, rfl, rfl, rfl, rfl, rfl, rfl⟩)), hb⟩)
        clear hE
        obtain ⟨⟨a0, a1, a2, a3, a4, a5⟩, ⟨b0, b1, b2, b3, b4, b5⟩⟩ := hR8.all
        obtain ⟨q0, q1, q2, q3, q4, q5⟩ := hR8.set (.int .i64 0) (.int .i64 0) (.int .i64 0) (.int .i64 0) (.int .i64 0) (.int .i64 0)
        have hbF := set6_below hb9 (show w.heap.size ≤ w.heap.size + 2 by omega) (.int .i64 0) (.int .i64 0) (.int .i64 0) (.int .i64 0) (.int .i64 0) (.int .i64 0)
        go_wp2
        exact bodyPost_ret (v := .tuple #[.agg #[.int .i64 0, .int .i64 0, .int .i64 0, .int .i64 0, .int .i64 0, .int .i64 0], .int .i64 6]) (by simp [results, Tryd.results20, go_sem, q0, q1, q2, q3, q4, q5]) rfl (HO.out _ hbF)
  · have HO : Hid (∀ w', Below w.heap.size w w' → NextPost k f l y i n a b p w (.returned (.tuple #[.agg #[.int .i64 0, .int .i64 0, .int .i64 0, .int .i64 0, .int .i64 0, .int .i64 0], .int .i64 (chkC k f l)])) w') := Lib.hid (fun w' hb => ⟨0, 0, 0, 0, 0, 0, _, rfl, .inl ⟨hc, rfl, rfl, rfl, rfl, rfl, rfl, rfl⟩, hb⟩)
    have e1 : (chkC k f l != 0) = true := by simpa using hc
    clear hc
    generalize chkC k f l = C at *
    have HC := Lib.hid HC
    go_enter Tryd.func20, Tryd.ntmps20
    go_wp2_with fail
    rw [← hW1]
    clear hW1
    refine (HC.out).mono ?_
    rintro e w2 ⟨rfl, hb2⟩
    have hR2 := hR1.below hb2
    have hb3 := hb0.trans (hb2.mono hb0.size)
    clear x0 x1 x2 p0 p1 p2 p3 p4 p5 hR1 hb0 hb2
    obtain ⟨⟨a0, a1, a2, a3, a4, a5⟩, ⟨b0, b1, b2, b3, b4, b5⟩⟩ := hR2.all
    obtain ⟨q0, q1, q2, q3, q4, q5⟩ := hR2.set (.int .i64 0) (.int .i64 0) (.int .i64 0) (.int .i64 0) (.int .i64 0) (.int .i64 0)
    have hbF := set6_below hb3 (show w.heap.size ≤ w.heap.size + 2 by omega) (.int .i64 0) (.int .i64 0) (.int .i64 0) (.int .i64 0) (.int .i64 0) (.int .i64 0)
    go_wp2
    exact bodyPost_ret (v := .tuple #[.agg #[.int .i64 0, .int .i64 0, .int .i64 0, .int .i64 0, .int .i64 0, .int .i64 0], .int .i64 C]) (by simp [results, Tryd.results20, go_sem, q0, q1, q2, q3, q4, q5]) rfl (HO.out _ hbF)

end Go.Proofs.YtfmabjfibjnkoaaDoor
