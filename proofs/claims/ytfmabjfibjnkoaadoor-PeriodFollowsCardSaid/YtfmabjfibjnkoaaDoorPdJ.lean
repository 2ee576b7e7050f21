/-
  What is proved: the contracts of Count of a calendar, the program's and the document's. Conditions: as each says.
-/
import Derived.Test.YtfmabjfibjnkoaaDoorPdI
namespace Go.Proofs.YtfmabjfibjnkoaaDoor
open Go Go.RowKit Go.Proofs
set_option linter.unusedVariables false

/-- What Count tells of two of a calendar's own. -/
def cntV (k y i a y' i' a' : Int) : Int := if k = 0 then (y' - y) * 12 + i' - i else (a' - a).tdiv (14 * k)
def CntR (k f l y i n a b p y' i' n' a' b' p' r : Int) : Prop :=
  (¬ (Owned k f l y i n a b p ∧ Owned k f l y' i' n' a' b' p') ∧ r = 0) ∨ (Owned k f l y i n a b p ∧ Owned k f l y' i' n' a' b' p' ∧ r = cntV k y i a y' i' a')
theorem CntR.one {k f l y i n a b p y' i' n' a' b' p' r s : Int} (h : CntR k f l y i n a b p y' i' n' a' b' p' r) (h' : CntR k f l y i n a b p y' i' n' a' b' p' s) : r = s := by
  rcases h with ⟨h1, rfl⟩ | ⟨h1, h2, rfl⟩ <;> rcases h' with ⟨h3, rfl⟩ | ⟨h3, h4, rfl⟩
  · rfl
  · exact absurd ⟨h3, h4⟩ h1
  · exact absurd ⟨h1, h2⟩ h3
  · rfl
def CntPost (k f l y i n a b p y' i' n' a' b' p' : Int) (w : World) (e : Ending) (w' : World) : Prop :=
  ∃ r : Int, e = .returned (.int .i64 r) ∧ CntR k f l y i n a b p y' i' n' a' b' p' r ∧ Below w.heap.size w w'
theorem CntPost.no {k f l y i n a b p y' i' n' a' b' p' : Int} {w w' : World} (h : ¬ (Owned k f l y i n a b p ∧ Owned k f l y' i' n' a' b' p')) (hb : Below w.heap.size w w') : CntPost k f l y i n a b p y' i' n' a' b' p' w (.returned (.int .i64 0)) w' := ⟨0, rfl, .inl ⟨h, rfl⟩, hb⟩
theorem CntPost.yes {k f l y i n a b p y' i' n' a' b' p' r : Int} {w w' : World} (h1 : Owned k f l y i n a b p) (h2 : Owned k f l y' i' n' a' b' p') (hr : r = cntV k y i a y' i' a') (hb : Below w.heap.size w w') : CntPost k f l y i n a b p y' i' n' a' b' p' w (.returned (.int .i64 r)) w' := ⟨r, rfl, .inr ⟨h1, h2, hr⟩, hb⟩
/-- The bounds of one of a calendar's own. -/
theorem Owned.bd {k f l y i n a b p : Int} (h : Owned k f l y i n a b p) : (k = 0 ∨ k = 1 ∨ k = 2) ∧ 1900 ≤ y ∧ y ≤ 2199 ∧ 1 ≤ i ∧ i ≤ n ∧ n ≤ 400 ∧ -25567 ≤ a ∧ a < b ∧ b ≤ 84006 := by
  obtain ⟨l1, l2, l3⟩ := h.len
  obtain ⟨hk, -, -, -⟩ := chkC_zero h.1
  obtain ⟨h1, h2, K, hK, j, hj, e1, e2, -, -⟩ := h.2
  have := hK.len
  exact ⟨hk, h1, h2, by omega, by omega, by omega, l2, l1, l3⟩
theorem tdiv_bd {x n : Int} (h1 : -200000 ≤ x) (h2 : x ≤ 200000) : -200000 ≤ x.tdiv n ∧ x.tdiv n ≤ 200000 := by
  have h3 : (x.tdiv n).natAbs ≤ x.natAbs := by rw [Int.natAbs_tdiv]; exact Nat.div_le_self _ _
  omega
theorem calper2 (w : World) (k f l y i n a b p y' i' n' a' b' p' : Int) (t u : TypeId) : ∃ W1, W1 = ((w.alloc (.cells #[.int .i64 k, .int .i64 f, .int .i64 l] t)).alloc (.cells #[.int .i64 y, .int .i64 i, .int .i64 n, .int .i64 a, .int .i64 b, .int .i64 p] u)).alloc (.cells #[.int .i64 y', .int .i64 i', .int .i64 n', .int .i64 a', .int .i64 b', .int .i64 p'] u) ∧ Below w.heap.size w W1 ∧ CalAt W1 w.heap.size k f l ∧ PerAt W1 (w.heap.size + 1) y i n a b p ∧ PerAt W1 (w.heap.size + 2) y' i' n' a' b' p' := by
  obtain ⟨W0, rfl, hb, hc, hp, hz⟩ := calper w k f l y i n a b p t u
  have hb2 : Below ((w.alloc (.cells #[.int .i64 k, .int .i64 f, .int .i64 l] t)).alloc (.cells #[.int .i64 y, .int .i64 i, .int .i64 n, .int .i64 a, .int .i64 b, .int .i64 p] u)).heap.size ((w.alloc (.cells #[.int .i64 k, .int .i64 f, .int .i64 l] t)).alloc (.cells #[.int .i64 y, .int .i64 i, .int .i64 n, .int .i64 a, .int .i64 b, .int .i64 p] u)) (((w.alloc (.cells #[.int .i64 k, .int .i64 f, .int .i64 l] t)).alloc (.cells #[.int .i64 y, .int .i64 i, .int .i64 n, .int .i64 a, .int .i64 b, .int .i64 p] u)).alloc (.cells #[.int .i64 y', .int .i64 i', .int .i64 n', .int .i64 a', .int .i64 b', .int .i64 p'] u)) := (Below.refl _ _).alloc (Nat.le_refl _) _
  refine ⟨_, rfl, hb.trans (hb2.mono hb.size), hc.stay hb2, hp.stay hb2, ?_⟩
  rw [← hz]
  exact new6 _ _ _ _ _ _ _ _

set_option maxHeartbeats 4000000 in
set_option maxRecDepth 100000 in
theorem Count_any (k f l y i n a b p y' i' n' a' b' p' : Int) (w : World) (hT : Tabs w) : Calls Tryd.prog 11 #[.agg #[.int .i64 k, .int .i64 f, .int .i64 l], .agg #[.int .i64 y, .int .i64 i, .int .i64 n, .int .i64 a, .int .i64 b, .int .i64 p], .agg #[.int .i64 y', .int .i64 i', .int .i64 n', .int .i64 a', .int .i64 b', .int .i64 p']] w (CntPost k f l y i n a b p y' i' n' a' b' p' w) := by
  obtain ⟨W1, hW1, hb0, hc0, hp0, hq0⟩ := calper2 w k f l y i n a b p y' i' n' a' b' p' 24 30
  have T1 := Lib.hid (hT.stay hb0)
  have HC0 := Lib.hid hc0
  have HP0 := Lib.hid hp0
  have HQ0 := Lib.hid hq0
  have HH := Lib.hid (fun W hT => has_any k f l y i n a b p W hT)
  have HG := Lib.hid (fun W hT => has_any k f l y' i' n' a' b' p' W hT)
  obtain ⟨x0, x1, x2⟩ := hc0
  obtain ⟨p0, p1, p2, p3, p4, p5⟩ := hp0
  obtain ⟨q0, q1, q2, q3, q4, q5⟩ := hq0
  clear hT
  go_enter Tryd.func11, Tryd.ntmps11
  go_wp2_with fail
  rw [← hW1]
  clear hW1
  refine (HH.out _ T1.out).mono ?_
  rintro e w2 ⟨r, rfl, hr, hb2⟩
  have HC2 := Lib.hid (HC0.out.stay hb2)
  have HP2 := Lib.hid (HP0.out.stay hb2)
  have HQ2 := Lib.hid (HQ0.out.stay hb2)
  have T2 := Lib.hid (T1.out.stay hb2)
  have hb3 := hb0.trans (hb2.mono hb0.size)
  clear x0 x1 x2 p0 p1 p2 p3 p4 p5 q0 q1 q2 q3 q4 q5 hb0 hb2 HC0 HP0 HQ0 T1 HH
  obtain ⟨x0, x1, x2⟩ := HC2.out
  obtain ⟨p0, p1, p2, p3, p4, p5⟩ := HP2.out
  obtain ⟨q0, q1, q2, q3, q4, q5⟩ := HQ2.out
  cases r with
  | false =>
    have HN : Hid (¬ (Owned k f l y i n a b p ∧ Owned k f l y' i' n' a' b' p')) := Lib.hid (fun h => by have := hr.2 h.1; simp at this)
    clear hr
    go_wp2
    go_ret
    exact CntPost.no HN.out hb3
  | true =>
    have HO := Lib.hid (hr.1 rfl)
    clear hr
    go_wp2_with fail
    refine (HG.out _ T2.out).mono ?_
    rintro e w4 ⟨r, rfl, hr, hb4⟩
    have HC4 := Lib.hid (HC2.out.stay hb4)
    have HP4 := Lib.hid (HP2.out.stay hb4)
    have HQ4 := Lib.hid (HQ2.out.stay hb4)
    have T4 := Lib.hid (T2.out.stay hb4)
    have hb5 := hb3.trans (hb4.mono hb3.size)
    clear x0 x1 x2 p0 p1 p2 p3 p4 p5 q0 q1 q2 q3 q4 q5 hb3 hb4 HC2 HP2 HQ2 T2 HG
    obtain ⟨x0, x1, x2⟩ := HC4.out
    obtain ⟨p0, p1, p2, p3, p4, p5⟩ := HP4.out
    obtain ⟨q0, q1, q2, q3, q4, q5⟩ := HQ4.out
    cases r with
    | false =>
      have HN : Hid (¬ (Owned k f l y i n a b p ∧ Owned k f l y' i' n' a' b' p')) := Lib.hid (fun h => by have := hr.2 h.2; simp at this)
      clear hr
      go_wp2
      go_ret
      exact CntPost.no HN.out hb5
    | true =>
      have HO2 := Lib.hid (hr.1 rfl)
      clear hr
      obtain ⟨hk, b1, b2, b3, b4, b5, b6, b7, b8⟩ := HO.out.bd
      obtain ⟨-, c1, c2, c3, c4, c5, c6, c7, c8⟩ := HO2.out.bd
      obtain ⟨t0, t1, t2⟩ := T4.out.2
      rcases hk with rfl | rfl | rfl
      · have i1 : IntKind.i64.wrap (y' - y) = y' - y := IntWalk.i64_in _ (by omega)
        have i2 : IntKind.i64.wrap ((y' - y) * 12) = (y' - y) * 12 := IntWalk.i64_in _ (by omega)
        have i3 : IntKind.i64.wrap ((y' - y) * 12 + i') = (y' - y) * 12 + i' := IntWalk.i64_in _ (by omega)
        have i4 : IntKind.i64.wrap ((y' - y) * 12 + i' - i) = (y' - y) * 12 + i' - i := IntWalk.i64_in _ (by omega)
        clear b1 b2 b3 b4 b5 b6 b7 b8 c1 c2 c3 c4 c5 c6 c7 c8
        go_wp2
        go_ret
        exact CntPost.yes HO.out HO2.out rfl hb5
      · have i1 : IntKind.i64.wrap (a' - a) = a' - a := IntWalk.i64_in _ (by omega)
        have i2 : IntKind.i64.wrap ((a' - a).tdiv 14) = (a' - a).tdiv 14 := IntWalk.i64_in _ (by have := tdiv_bd (x := a' - a) (n := 14) (by omega) (by omega); omega)
        clear b1 b2 b3 b4 b5 b6 b7 b8 c1 c2 c3 c4 c5 c6 c7 c8
        go_wp2
        go_ret
        exact CntPost.yes HO.out HO2.out rfl hb5
      · have i1 : IntKind.i64.wrap (a' - a) = a' - a := IntWalk.i64_in _ (by omega)
        have i2 : IntKind.i64.wrap ((a' - a).tdiv 28) = (a' - a).tdiv 28 := IntWalk.i64_in _ (by have := tdiv_bd (x := a' - a) (n := 28) (by omega) (by omega); omega)
        clear b1 b2 b3 b4 b5 b6 b7 b8 c1 c2 c3 c4 c5 c6 c7 c8
        go_wp2
        go_ret
        exact CntPost.yes HO.out HO2.out rfl hb5

set_option maxHeartbeats 4000000 in
set_option maxRecDepth 100000 in
theorem rCount_any (k f l y i n a b p y' i' n' a' b' p' : Int) (w : World) (hi1 : -9223372036854775808 ≤ i) (hi2 : -9223372036854775808 ≤ i') : Calls Tryd.prog 22 #[.agg #[.int .i64 k, .int .i64 f, .int .i64 l], .agg #[.int .i64 y, .int .i64 i, .int .i64 n, .int .i64 a, .int .i64 b, .int .i64 p], .agg #[.int .i64 y', .int .i64 i', .int .i64 n', .int .i64 a', .int .i64 b', .int .i64 p']] w (CntPost k f l y i n a b p y' i' n' a' b' p' w) := by
  obtain ⟨W1, hW1, hb0, hc0, hp0, hq0⟩ := calper2 w k f l y i n a b p y' i' n' a' b' p' 39 48
  have HC0 := Lib.hid hc0
  have HP0 := Lib.hid hp0
  have HQ0 := Lib.hid hq0
  have HK := rCheck_any k f l W1
  obtain ⟨x0, x1, x2⟩ := hc0
  obtain ⟨p0, p1, p2, p3, p4, p5⟩ := hp0
  obtain ⟨q0, q1, q2, q3, q4, q5⟩ := hq0
  by_cases hc : chkC k f l = 0
  rotate_left
  · have HN : Hid (¬ (Owned k f l y i n a b p ∧ Owned k f l y' i' n' a' b' p')) := Lib.hid (fun h => hc h.1.1)
    have e1 : (chkC k f l != 0) = true := by simpa using hc
    clear hc
    generalize chkC k f l = C at *
    have HK := Lib.hid HK
    go_enter Tryd.func22, Tryd.ntmps22
    go_wp2_with fail
    rw [← hW1]
    clear hW1
    refine (HK.out).mono ?_
    rintro e w2 ⟨rfl, hb2⟩
    have hb3 := hb0.trans (hb2.mono hb0.size)
    go_wp2
    go_ret
    exact CntPost.no HN.out hb3
  have HH := Lib.hid (fun W => rOwn_any k f l y i n a b p W hc hi1)
  have HG := Lib.hid (fun W => rOwn_any k f l y' i' n' a' b' p' W hc hi2)
  rw [hc] at HK
  have HK := Lib.hid HK
  clear hc hi1 hi2
  go_enter Tryd.func22, Tryd.ntmps22
  go_wp2_with fail
  rw [← hW1]
  clear hW1
  refine (HK.out).mono ?_
  rintro e w2 ⟨rfl, hb2⟩
  have HC2 := Lib.hid (HC0.out.stay hb2)
  have HP2 := Lib.hid (HP0.out.stay hb2)
  have HQ2 := Lib.hid (HQ0.out.stay hb2)
  have hb3 := hb0.trans (hb2.mono hb0.size)
  clear x0 x1 x2 p0 p1 p2 p3 p4 p5 q0 q1 q2 q3 q4 q5 hb0 hb2 HC0 HP0 HQ0 HK
  obtain ⟨x0, x1, x2⟩ := HC2.out
  obtain ⟨p0, p1, p2, p3, p4, p5⟩ := HP2.out
  obtain ⟨q0, q1, q2, q3, q4, q5⟩ := HQ2.out
  go_wp2_with fail
  refine (HH.out _).mono ?_
  rintro e w4 ⟨r, rfl, hr, hb4⟩
  have HC4 := Lib.hid (HC2.out.stay hb4)
  have HP4 := Lib.hid (HP2.out.stay hb4)
  have HQ4 := Lib.hid (HQ2.out.stay hb4)
  have hb5 := hb3.trans (hb4.mono hb3.size)
  clear x0 x1 x2 p0 p1 p2 p3 p4 p5 q0 q1 q2 q3 q4 q5 hb3 hb4 HC2 HP2 HQ2 HH
  obtain ⟨x0, x1, x2⟩ := HC4.out
  obtain ⟨p0, p1, p2, p3, p4, p5⟩ := HP4.out
  obtain ⟨q0, q1, q2, q3, q4, q5⟩ := HQ4.out
  cases r with
  | false =>
    have HN : Hid (¬ (Owned k f l y i n a b p ∧ Owned k f l y' i' n' a' b' p')) := Lib.hid (fun h => by have := hr.2 h.1; simp at this)
    clear hr
    go_wp2
    go_ret
    exact CntPost.no HN.out hb5
  | true =>
    have HO := Lib.hid (hr.1 rfl)
    clear hr
    go_wp2_with fail
    refine (HG.out _).mono ?_
    rintro e w6 ⟨r, rfl, hr, hb6⟩
    obtain ⟨x0, x1, x2⟩ := HC4.out.stay hb6
    obtain ⟨p0, p1, p2, p3, p4, p5⟩ := HP4.out.stay hb6
    obtain ⟨q0, q1, q2, q3, q4, q5⟩ := HQ4.out.stay hb6
    have hb7 := hb5.trans (hb6.mono hb5.size)
    clear hb5 hb6 HC4 HP4 HQ4 HG
    cases r with
    | false =>
      have HN : Hid (¬ (Owned k f l y i n a b p ∧ Owned k f l y' i' n' a' b' p')) := Lib.hid (fun h => by have := hr.2 h.2; simp at this)
      clear hr
      go_wp2
      go_ret
      exact CntPost.no HN.out hb7
    | true =>
      have HO2 := Lib.hid (hr.1 rfl)
      clear hr
      obtain ⟨hk, b1, b2, b3, b4, b5, b6, b7, b8⟩ := HO.out.bd
      obtain ⟨-, c1, c2, c3, c4, c5, c6, c7, c8⟩ := HO2.out.bd
      rcases hk with rfl | rfl | rfl
      · have i1 : IntKind.i64.wrap (y' - y) = y' - y := IntWalk.i64_in _ (by omega)
        have i2 : IntKind.i64.wrap ((y' - y) * 12) = (y' - y) * 12 := IntWalk.i64_in _ (by omega)
        have i3 : IntKind.i64.wrap ((y' - y) * 12 + i') = (y' - y) * 12 + i' := IntWalk.i64_in _ (by omega)
        have i4 : IntKind.i64.wrap ((y' - y) * 12 + i' - i) = (y' - y) * 12 + i' - i := IntWalk.i64_in _ (by omega)
        clear b1 b2 b3 b4 b5 b6 b7 b8 c1 c2 c3 c4 c5 c6 c7 c8
        go_wp2
        go_ret
        exact CntPost.yes HO.out HO2.out rfl hb7
      · have i1 : IntKind.i64.wrap (a' - a) = a' - a := IntWalk.i64_in _ (by omega)
        have i2 : IntKind.i64.wrap ((a' - a).tdiv 14) = (a' - a).tdiv 14 := IntWalk.i64_in _ (by have := tdiv_bd (x := a' - a) (n := 14) (by omega) (by omega); omega)
        clear b1 b2 b3 b4 b5 b6 b7 b8 c1 c2 c3 c4 c5 c6 c7 c8
        go_wp2
        go_ret
        exact CntPost.yes HO.out HO2.out rfl hb7
      · have i1 : IntKind.i64.wrap (a' - a) = a' - a := IntWalk.i64_in _ (by omega)
        have i2 : IntKind.i64.wrap ((a' - a).tdiv 28) = (a' - a).tdiv 28 := IntWalk.i64_in _ (by have := tdiv_bd (x := a' - a) (n := 28) (by omega) (by omega); omega)
        clear b1 b2 b3 b4 b5 b6 b7 b8 c1 c2 c3 c4 c5 c6 c7 c8
        go_wp2
        go_ret
        exact CntPost.yes HO.out HO2.out rfl hb7

end Go.Proofs.YtfmabjfibjnkoaaDoor
