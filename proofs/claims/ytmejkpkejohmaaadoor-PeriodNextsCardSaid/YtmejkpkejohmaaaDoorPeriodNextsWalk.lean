/-
  What is proved: the walk of the statement PeriodNexts: the call returns true. Conditions: the tables read as their texts lay them.
-/
import Derived.Test.YtmejkpkejohmaaaDoorPdJ
import Derived.Deep.RegionHeld3
namespace Go.Proofs.YtmejkpkejohmaaaDoor
open Go Go.RowKit Go.Proofs
set_option linter.unusedVariables false

theorem PerAt.of_set {w : World} {g : Nat} (h : Res6 w g) (a b c d e f : Int) : PerAt ((((((w.setCell ⟨g, 0, none⟩ (.int .i64 a)).setCell ⟨g, 1, none⟩ (.int .i64 b)).setCell ⟨g, 2, none⟩ (.int .i64 c)).setCell ⟨g, 3, none⟩ (.int .i64 d)).setCell ⟨g, 4, none⟩ (.int .i64 e)).setCell ⟨g, 5, none⟩ (.int .i64 f)) g a b c d e f :=
  h.set _ _ _ _ _ _

theorem res6_drew (w : World) (t : TypeId) : Res6 (w.drew.alloc (.cells #[.int .i64 0, .int .i64 0, .int .i64 0, .int .i64 0, .int .i64 0, .int .i64 0] t)) w.heap.size := res6_new w.drew t

set_option maxHeartbeats 4000000 in
set_option maxRecDepth 100000 in
theorem walkPeriodNexts (k f l y i n a b p y' i' n' a' b' p' : Int) (w : World) (wc : (-9223372036854775808 ≤ k ∧ k ≤ 9223372036854775807) ∧ (-9223372036854775808 ≤ f ∧ f ≤ 9223372036854775807) ∧ (-9223372036854775808 ≤ l ∧ l ≤ 9223372036854775807)) (wp : (-9223372036854775808 ≤ y ∧ y ≤ 9223372036854775807) ∧ (-9223372036854775808 ≤ i ∧ i ≤ 9223372036854775807) ∧ (-9223372036854775808 ≤ n ∧ n ≤ 9223372036854775807) ∧ (-9223372036854775808 ≤ a ∧ a ≤ 9223372036854775807) ∧ (-9223372036854775808 ≤ b ∧ b ≤ 9223372036854775807) ∧ (-9223372036854775808 ≤ p ∧ p ≤ 9223372036854775807)) (wq : (-9223372036854775808 ≤ y' ∧ y' ≤ 9223372036854775807) ∧ (-9223372036854775808 ≤ i' ∧ i' ≤ 9223372036854775807) ∧ (-9223372036854775808 ≤ n' ∧ n' ≤ 9223372036854775807) ∧ (-9223372036854775808 ≤ a' ∧ a' ≤ 9223372036854775807) ∧ (-9223372036854775808 ≤ b' ∧ b' ≤ 9223372036854775807) ∧ (-9223372036854775808 ≤ p' ∧ p' ≤ 9223372036854775807)) (hT : Tab3 w) :
    Calls Tryd.prog 6 #[.agg #[.int .i64 k, .int .i64 f, .int .i64 l], .agg #[.int .i64 y, .int .i64 i, .int .i64 n, .int .i64 a, .int .i64 b, .int .i64 p], .agg #[.int .i64 y', .int .i64 i', .int .i64 n', .int .i64 a', .int .i64 b', .int .i64 p']] w fun e w' => e = .returned (.bool true) ∧ Below w.heap.size w w' := by
  have HN := Lib.hid (fun W hT => Next_any k f l y i n a b p W hT)
  have HRN := Lib.hid (fun W => rNext_any k f l y i n a b p W wp.2.1.1)
  have HCN := Lib.hid (fun W hT => Count_any k f l y i n a b p y' i' n' a' b' p' W hT)
  have HRC := Lib.hid (fun W => rCount_any k f l y i n a b p y' i' n' a' b' p' W wp.2.1.1 wq.2.1.1)
  have HO := Lib.hid (of_any k f l)
  obtain ⟨W1, hW1, hb0, hc0, hp0, hq0⟩ := calper2 w k f l y i n a b p y' i' n' a' b' p' 24 30
  have T1 := Lib.hid (hT.stay hb0)
  have HC0 := Lib.hid hc0
  have HP0 := Lib.hid hp0
  have HQ0 := Lib.hid hq0
  obtain ⟨x0, x1, x2⟩ := hc0
  obtain ⟨p0, p1, p2, p3, p4, p5⟩ := hp0
  clear hT wc wp wq hq0
  go_enter Tryd.func6, Tryd.ntmps6
  go_wp2_with fail
  rw [← hW1]
  clear hW1
  refine (HN.out _ T1.out.1).mono ?_
  rintro e w2 ⟨z0, z1, z2, z3, z4, z5, E, rfl, hR1, hb2⟩
  have HR1 := Lib.hid hR1
  obtain ⟨W3, hW3⟩ : ∃ W3, W3 = w2.alloc (.cells #[.int .i64 z0, .int .i64 z1, .int .i64 z2, .int .i64 z3, .int .i64 z4, .int .i64 z5] 30) := ⟨_, rfl⟩
  have hN3 : PerAt W3 w2.heap.size z0 z1 z2 z3 z4 z5 := by rw [hW3]; exact new6 _ _ _ _ _ _ _ _
  have hb3 : Below w2.heap.size w2 W3 := by rw [hW3]; exact (Below.refl w2.heap.size w2).alloc (Nat.le_refl _) _
  have hb23 := hb2.trans (hb3.mono hb2.size)
  have HN3 := Lib.hid hN3
  have HC3 := Lib.hid (HC0.out.stay hb23)
  have HP3 := Lib.hid (HP0.out.stay hb23)
  have HQ3 := Lib.hid (HQ0.out.stay hb23)
  have T3 := Lib.hid (T1.out.stay hb23)
  have hb4 := hb0.trans (hb23.mono hb0.size)
  have KP : Hid (∀ w', Below W3.heap.size W3 w' → (w'.cell? ⟨w.heap.size, 0, none⟩ = some (.int .i64 k) ∧ w'.cell? ⟨w.heap.size, 1, none⟩ = some (.int .i64 f) ∧ w'.cell? ⟨w.heap.size, 2, none⟩ = some (.int .i64 l) ∧ w'.cell? ⟨w.heap.size + 1, 0, none⟩ = some (.int .i64 y) ∧ w'.cell? ⟨w.heap.size + 1, 1, none⟩ = some (.int .i64 i) ∧ w'.cell? ⟨w.heap.size + 1, 2, none⟩ = some (.int .i64 n) ∧ w'.cell? ⟨w.heap.size + 1, 3, none⟩ = some (.int .i64 a) ∧ w'.cell? ⟨w.heap.size + 1, 4, none⟩ = some (.int .i64 b) ∧ w'.cell? ⟨w.heap.size + 1, 5, none⟩ = some (.int .i64 p)) ∧ Below W3.heap.size W3 w') := Lib.hid (fun w' h => by
    obtain ⟨x0, x1, x2⟩ := HC3.out.stay h
    obtain ⟨p0, p1, p2, p3, p4, p5⟩ := HP3.out.stay h
    exact ⟨⟨x0, x1, x2, p0, p1, p2, p3, p4, p5⟩, h⟩)
  have KQ : Hid (∀ (g : Nat) (Wf : World), Below W3.heap.size W3 Wf → PerAt Wf g z0 z1 z2 z3 z4 z5 → ∀ w', Below Wf.heap.size Wf w' → (w'.cell? ⟨w.heap.size, 0, none⟩ = some (.int .i64 k) ∧ w'.cell? ⟨w.heap.size, 1, none⟩ = some (.int .i64 f) ∧ w'.cell? ⟨w.heap.size, 2, none⟩ = some (.int .i64 l) ∧ w'.cell? ⟨w.heap.size + 1, 0, none⟩ = some (.int .i64 y) ∧ w'.cell? ⟨w.heap.size + 1, 1, none⟩ = some (.int .i64 i) ∧ w'.cell? ⟨w.heap.size + 1, 2, none⟩ = some (.int .i64 n) ∧ w'.cell? ⟨w.heap.size + 1, 3, none⟩ = some (.int .i64 a) ∧ w'.cell? ⟨w.heap.size + 1, 4, none⟩ = some (.int .i64 b) ∧ w'.cell? ⟨w.heap.size + 1, 5, none⟩ = some (.int .i64 p) ∧ w'.cell? ⟨w.heap.size + 2, 0, none⟩ = some (.int .i64 y') ∧ w'.cell? ⟨w.heap.size + 2, 1, none⟩ = some (.int .i64 i') ∧ w'.cell? ⟨w.heap.size + 2, 2, none⟩ = some (.int .i64 n') ∧ w'.cell? ⟨w.heap.size + 2, 3, none⟩ = some (.int .i64 a') ∧ w'.cell? ⟨w.heap.size + 2, 4, none⟩ = some (.int .i64 b') ∧ w'.cell? ⟨w.heap.size + 2, 5, none⟩ = some (.int .i64 p') ∧ w'.cell? ⟨w2.heap.size, 0, none⟩ = some (.int .i64 z0) ∧ w'.cell? ⟨w2.heap.size, 1, none⟩ = some (.int .i64 z1) ∧ w'.cell? ⟨w2.heap.size, 2, none⟩ = some (.int .i64 z2) ∧ w'.cell? ⟨w2.heap.size, 3, none⟩ = some (.int .i64 z3) ∧ w'.cell? ⟨w2.heap.size, 4, none⟩ = some (.int .i64 z4) ∧ w'.cell? ⟨w2.heap.size, 5, none⟩ = some (.int .i64 z5) ∧ w'.cell? ⟨g, 0, none⟩ = some (.int .i64 z0) ∧ w'.cell? ⟨g, 1, none⟩ = some (.int .i64 z1) ∧ w'.cell? ⟨g, 2, none⟩ = some (.int .i64 z2) ∧ w'.cell? ⟨g, 3, none⟩ = some (.int .i64 z3) ∧ w'.cell? ⟨g, 4, none⟩ = some (.int .i64 z4) ∧ w'.cell? ⟨g, 5, none⟩ = some (.int .i64 z5)) ∧ Below Wf.heap.size Wf w') := Lib.hid (fun g Wf hF hm w' h => by
    obtain ⟨x0, x1, x2⟩ := (HC3.out.stay hF).stay h
    obtain ⟨p0, p1, p2, p3, p4, p5⟩ := (HP3.out.stay hF).stay h
    obtain ⟨q0, q1, q2, q3, q4, q5⟩ := (HQ3.out.stay hF).stay h
    obtain ⟨n0, n1, n2, n3, n4, n5⟩ := (HN3.out.stay hF).stay h
    obtain ⟨m0, m1, m2, m3, m4, m5⟩ := hm.stay h
    exact ⟨⟨x0, x1, x2, p0, p1, p2, p3, p4, p5, q0, q1, q2, q3, q4, q5, n0, n1, n2, n3, n4, n5, m0, m1, m2, m3, m4, m5⟩, h⟩)
  clear hR1 hN3 hb0 hb2 hb3 hb23 x0 x1 x2 p0 p1 p2 p3 p4 p5 HC0 HP0 HQ0 T1 HN
  go_wp2
  rw [← hW3]
  clear hW3
  go_region_held3 (fun w' => (w'.cell? ⟨w.heap.size, 0, none⟩ = some (.int .i64 k) ∧ w'.cell? ⟨w.heap.size, 1, none⟩ = some (.int .i64 f) ∧ w'.cell? ⟨w.heap.size, 2, none⟩ = some (.int .i64 l) ∧ w'.cell? ⟨w.heap.size + 1, 0, none⟩ = some (.int .i64 y) ∧ w'.cell? ⟨w.heap.size + 1, 1, none⟩ = some (.int .i64 i) ∧ w'.cell? ⟨w.heap.size + 1, 2, none⟩ = some (.int .i64 n) ∧ w'.cell? ⟨w.heap.size + 1, 3, none⟩ = some (.int .i64 a) ∧ w'.cell? ⟨w.heap.size + 1, 4, none⟩ = some (.int .i64 b) ∧ w'.cell? ⟨w.heap.size + 1, 5, none⟩ = some (.int .i64 p)) ∧ Below W3.heap.size W3 w') (first | with_reducible exact KP.out _ (set6_below hky hgx _ _ _ _ _ _) | with_reducible exact KP.out _ (set6_below hky (Nat.le_refl _) _ _ _ _ _ _) | with_reducible exact KP.out _ kb_drew | with_reducible exact KP.out _ (by assumption) | with_reducible exact KP.out _ (Below.alloc (by assumption) (by assumption) _) | with_reducible exact KP.out _ (Below.alloc kb_drew (Below.size kb_drew) _) | with_reducible exact KP.out _ (Below.drew (Below.alloc (Below.refl _ _) (Nat.le_refl _) _)) | with_reducible exact KP.out _ (set6_below (Below.alloc (by assumption) (by assumption) _) (by assumption) _ _ _ _ _ _)) (first | (go_at_call 14; refine (HO.out _).mono ?_; rintro e wx ⟨rfl, hbx⟩; have hkx : Below W3.heap.size W3 wx := kb_call hbx (by assumption); have hgx := hkx.size; first | (have hrx := (res6_drew _ _).below hbx) | (have hrx := (res6_new _ _).below hbx) | skip) | (go_at_call 21; refine (HRN.out _).mono ?_; rintro e wy ⟨u0, u1, u2, u3, u4, u5, E', rfl, hR2, hby⟩; have hky : Below W3.heap.size W3 wy := kb_call hby (by assumption); have hgy := hky.size; obtain ⟨rfl, rfl, rfl, rfl, rfl, rfl, rfl⟩ := HR1.out.one hR2; clear hR2; first | (have hry : Res6 wy wx.heap.size := (res6_new wx 48).below hby) | (have hry := Res6.below hrx hby) | (have hry := res6_new wy 48); obtain ⟨⟨a0, a1, a2, a3, a4, a5⟩, ⟨b0, b1, b2, b3, b4, b5⟩⟩ := hry.all) | (obtain ⟨⟨a0, a1, a2, a3, a4, a5⟩, ⟨b0, b1, b2, b3, b4, b5⟩⟩ := hry.all; simp (config := { decide := true }) only [a0, a1, a2, a3, a4, a5, b0, b1, b2, b3, b4, b5, Result.andThen, World.frozen?_setCell, set_off, ne_eq, Bool.false_eq_true, reduceIte]; clear a0 a1 a2 a3 a4 a5 b0 b1 b2 b3 b4 b5; go_simp))
  · have hm : PerAt (wy.alloc (.cells #[.int .i64 z0, .int .i64 z1, .int .i64 z2, .int .i64 z3, .int .i64 z4, .int .i64 z5] 48)) wy.heap.size z0 z1 z2 z3 z4 z5 := new6 _ _ _ _ _ _ _ _
    have hbF : Below W3.heap.size W3 (wy.alloc (.cells #[.int .i64 z0, .int .i64 z1, .int .i64 z2, .int .i64 z3, .int .i64 z4, .int .i64 z5] 48)) := Below.alloc hky hgy _
    generalize (wy.alloc (.cells #[.int .i64 z0, .int .i64 z1, .int .i64 z2, .int .i64 z3, .int .i64 z4, .int .i64 z5] 48)) = Wf at hm hbF ⊢
    clear hry
    have KS := Lib.hid (KQ.out _ Wf hbF hm)
    generalize wy.heap.size = g at hm KS ⊢
    have TF := Lib.hid (T3.out.stay hbF)
    have hb9 := hb4.trans (hbF.mono hb4.size)
    have eE : (E == E) = true := by simp
    clear hm hbF KQ KP HRN
    go_wp2
    go_region_held3 (fun w' => (w'.cell? ⟨w.heap.size, 0, none⟩ = some (.int .i64 k) ∧ w'.cell? ⟨w.heap.size, 1, none⟩ = some (.int .i64 f) ∧ w'.cell? ⟨w.heap.size, 2, none⟩ = some (.int .i64 l) ∧ w'.cell? ⟨w.heap.size + 1, 0, none⟩ = some (.int .i64 y) ∧ w'.cell? ⟨w.heap.size + 1, 1, none⟩ = some (.int .i64 i) ∧ w'.cell? ⟨w.heap.size + 1, 2, none⟩ = some (.int .i64 n) ∧ w'.cell? ⟨w.heap.size + 1, 3, none⟩ = some (.int .i64 a) ∧ w'.cell? ⟨w.heap.size + 1, 4, none⟩ = some (.int .i64 b) ∧ w'.cell? ⟨w.heap.size + 1, 5, none⟩ = some (.int .i64 p) ∧ w'.cell? ⟨w.heap.size + 2, 0, none⟩ = some (.int .i64 y') ∧ w'.cell? ⟨w.heap.size + 2, 1, none⟩ = some (.int .i64 i') ∧ w'.cell? ⟨w.heap.size + 2, 2, none⟩ = some (.int .i64 n') ∧ w'.cell? ⟨w.heap.size + 2, 3, none⟩ = some (.int .i64 a') ∧ w'.cell? ⟨w.heap.size + 2, 4, none⟩ = some (.int .i64 b') ∧ w'.cell? ⟨w.heap.size + 2, 5, none⟩ = some (.int .i64 p') ∧ w'.cell? ⟨w2.heap.size, 0, none⟩ = some (.int .i64 z0) ∧ w'.cell? ⟨w2.heap.size, 1, none⟩ = some (.int .i64 z1) ∧ w'.cell? ⟨w2.heap.size, 2, none⟩ = some (.int .i64 z2) ∧ w'.cell? ⟨w2.heap.size, 3, none⟩ = some (.int .i64 z3) ∧ w'.cell? ⟨w2.heap.size, 4, none⟩ = some (.int .i64 z4) ∧ w'.cell? ⟨w2.heap.size, 5, none⟩ = some (.int .i64 z5) ∧ w'.cell? ⟨g, 0, none⟩ = some (.int .i64 z0) ∧ w'.cell? ⟨g, 1, none⟩ = some (.int .i64 z1) ∧ w'.cell? ⟨g, 2, none⟩ = some (.int .i64 z2) ∧ w'.cell? ⟨g, 3, none⟩ = some (.int .i64 z3) ∧ w'.cell? ⟨g, 4, none⟩ = some (.int .i64 z4) ∧ w'.cell? ⟨g, 5, none⟩ = some (.int .i64 z5)) ∧ Below Wf.heap.size Wf w') (first | with_reducible exact KS.out _ kb_drew | with_reducible exact KS.out _ (by assumption)) (first | (go_at_call 10; refine (awake_any _ (TF.out.stay (And.right (by assumption)))).mono ?_; rintro e wa ⟨rfl, hba⟩; have hka : Below Wf.heap.size Wf wa := kb_call hba (by assumption)) | (go_at_call 11; refine (HCN.out _ (TF.out.stay (And.right (by assumption))).1).mono ?_; rintro e wb ⟨r, rfl, hr1, hbb⟩; have hkb : Below Wf.heap.size Wf wb := kb_call hbb (by assumption)) | (go_at_call 14; refine (HO.out _).mono ?_; rintro e wd ⟨rfl, hbd⟩; have hkd : Below Wf.heap.size Wf wd := kb_call hbd (by assumption)) | (go_at_call 22; refine (HRC.out _).mono ?_; rintro e we ⟨r2, rfl, hr2, hbe⟩; have hke : Below Wf.heap.size Wf we := kb_call hbe (by assumption); obtain rfl := hr1.one hr2; clear hr2))
    go_wp2
    go_ret
    exact ⟨by simp, hb9.trans (hke.mono hb9.size)⟩
  · have hm := PerAt.of_set hry z0 z1 z2 z3 z4 z5
    have hbF := set6_below hky hgx (.int .i64 z0) (.int .i64 z1) (.int .i64 z2) (.int .i64 z3) (.int .i64 z4) (.int .i64 z5)
    generalize ((((((wy.setCell ⟨wx.heap.size, 0, none⟩ (.int .i64 z0)).setCell ⟨wx.heap.size, 1, none⟩ (.int .i64 z1)).setCell ⟨wx.heap.size, 2, none⟩ (.int .i64 z2)).setCell ⟨wx.heap.size, 3, none⟩ (.int .i64 z3)).setCell ⟨wx.heap.size, 4, none⟩ (.int .i64 z4)).setCell ⟨wx.heap.size, 5, none⟩ (.int .i64 z5)) = Wf at hm hbF ⊢
    clear hry
    have KS := Lib.hid (KQ.out _ Wf hbF hm)
    generalize wx.heap.size = g at hm KS ⊢
    have TF := Lib.hid (T3.out.stay hbF)
    have hb9 := hb4.trans (hbF.mono hb4.size)
    have eE : (E == E) = true := by simp
    clear hm hbF KQ KP HRN
    go_wp2
    go_region_held3 (fun w' => (w'.cell? ⟨w.heap.size, 0, none⟩ = some (.int .i64 k) ∧ w'.cell? ⟨w.heap.size, 1, none⟩ = some (.int .i64 f) ∧ w'.cell? ⟨w.heap.size, 2, none⟩ = some (.int .i64 l) ∧ w'.cell? ⟨w.heap.size + 1, 0, none⟩ = some (.int .i64 y) ∧ w'.cell? ⟨w.heap.size + 1, 1, none⟩ = some (.int .i64 i) ∧ w'.cell? ⟨w.heap.size + 1, 2, none⟩ = some (.int .i64 n) ∧ w'.cell? ⟨w.heap.size + 1, 3, none⟩ = some (.int .i64 a) ∧ w'.cell? ⟨w.heap.size + 1, 4, none⟩ = some (.int .i64 b) ∧ w'.cell? ⟨w.heap.size + 1, 5, none⟩ = some (.int .i64 p) ∧ w'.cell? ⟨w.heap.size + 2, 0, none⟩ = some (.int .i64 y') ∧ w'.cell? ⟨w.heap.size + 2, 1, none⟩ = some (.int .i64 i') ∧ w'.cell? ⟨w.heap.size + 2, 2, none⟩ = some (.int .i64 n') ∧ w'.cell? ⟨w.heap.size + 2, 3, none⟩ = some (.int .i64 a') ∧ w'.cell? ⟨w.heap.size + 2, 4, none⟩ = some (.int .i64 b') ∧ w'.cell? ⟨w.heap.size + 2, 5, none⟩ = some (.int .i64 p') ∧ w'.cell? ⟨w2.heap.size, 0, none⟩ = some (.int .i64 z0) ∧ w'.cell? ⟨w2.heap.size, 1, none⟩ = some (.int .i64 z1) ∧ w'.cell? ⟨w2.heap.size, 2, none⟩ = some (.int .i64 z2) ∧ w'.cell? ⟨w2.heap.size, 3, none⟩ = some (.int .i64 z3) ∧ w'.cell? ⟨w2.heap.size, 4, none⟩ = some (.int .i64 z4) ∧ w'.cell? ⟨w2.heap.size, 5, none⟩ = some (.int .i64 z5) ∧ w'.cell? ⟨g, 0, none⟩ = some (.int .i64 z0) ∧ w'.cell? ⟨g, 1, none⟩ = some (.int .i64 z1) ∧ w'.cell? ⟨g, 2, none⟩ = some (.int .i64 z2) ∧ w'.cell? ⟨g, 3, none⟩ = some (.int .i64 z3) ∧ w'.cell? ⟨g, 4, none⟩ = some (.int .i64 z4) ∧ w'.cell? ⟨g, 5, none⟩ = some (.int .i64 z5)) ∧ Below Wf.heap.size Wf w') (first | with_reducible exact KS.out _ kb_drew | with_reducible exact KS.out _ (by assumption)) (first | (go_at_call 10; refine (awake_any _ (TF.out.stay (And.right (by assumption)))).mono ?_; rintro e wa ⟨rfl, hba⟩; have hka : Below Wf.heap.size Wf wa := kb_call hba (by assumption)) | (go_at_call 11; refine (HCN.out _ (TF.out.stay (And.right (by assumption))).1).mono ?_; rintro e wb ⟨r, rfl, hr1, hbb⟩; have hkb : Below Wf.heap.size Wf wb := kb_call hbb (by assumption)) | (go_at_call 14; refine (HO.out _).mono ?_; rintro e wd ⟨rfl, hbd⟩; have hkd : Below Wf.heap.size Wf wd := kb_call hbd (by assumption)) | (go_at_call 22; refine (HRC.out _).mono ?_; rintro e we ⟨r2, rfl, hr2, hbe⟩; have hke : Below Wf.heap.size Wf we := kb_call hbe (by assumption); obtain rfl := hr1.one hr2; clear hr2))
    go_wp2
    go_ret
    exact ⟨by simp, hb9.trans (hke.mono hb9.size)⟩
  · have hm := PerAt.of_set hry z0 z1 z2 z3 z4 z5
    have hbF := set6_below hky (Nat.le_refl _) (.int .i64 z0) (.int .i64 z1) (.int .i64 z2) (.int .i64 z3) (.int .i64 z4) (.int .i64 z5)
    generalize ((((((wy.setCell ⟨W3.heap.size, 0, none⟩ (.int .i64 z0)).setCell ⟨W3.heap.size, 1, none⟩ (.int .i64 z1)).setCell ⟨W3.heap.size, 2, none⟩ (.int .i64 z2)).setCell ⟨W3.heap.size, 3, none⟩ (.int .i64 z3)).setCell ⟨W3.heap.size, 4, none⟩ (.int .i64 z4)).setCell ⟨W3.heap.size, 5, none⟩ (.int .i64 z5)) = Wf at hm hbF ⊢
    clear hry
    have KS := Lib.hid (KQ.out _ Wf hbF hm)
    generalize W3.heap.size = g at hm KS ⊢
    have TF := Lib.hid (T3.out.stay hbF)
    have hb9 := hb4.trans (hbF.mono hb4.size)
    have eE : (E == E) = true := by simp
    clear hm hbF KQ KP HRN
    go_wp2
    go_region_held3 (fun w' => (w'.cell? ⟨w.heap.size, 0, none⟩ = some (.int .i64 k) ∧ w'.cell? ⟨w.heap.size, 1, none⟩ = some (.int .i64 f) ∧ w'.cell? ⟨w.heap.size, 2, none⟩ = some (.int .i64 l) ∧ w'.cell? ⟨w.heap.size + 1, 0, none⟩ = some (.int .i64 y) ∧ w'.cell? ⟨w.heap.size + 1, 1, none⟩ = some (.int .i64 i) ∧ w'.cell? ⟨w.heap.size + 1, 2, none⟩ = some (.int .i64 n) ∧ w'.cell? ⟨w.heap.size + 1, 3, none⟩ = some (.int .i64 a) ∧ w'.cell? ⟨w.heap.size + 1, 4, none⟩ = some (.int .i64 b) ∧ w'.cell? ⟨w.heap.size + 1, 5, none⟩ = some (.int .i64 p) ∧ w'.cell? ⟨w.heap.size + 2, 0, none⟩ = some (.int .i64 y') ∧ w'.cell? ⟨w.heap.size + 2, 1, none⟩ = some (.int .i64 i') ∧ w'.cell? ⟨w.heap.size + 2, 2, none⟩ = some (.int .i64 n') ∧ w'.cell? ⟨w.heap.size + 2, 3, none⟩ = some (.int .i64 a') ∧ w'.cell? ⟨w.heap.size + 2, 4, none⟩ = some (.int .i64 b') ∧ w'.cell? ⟨w.heap.size + 2, 5, none⟩ = some (.int .i64 p') ∧ w'.cell? ⟨w2.heap.size, 0, none⟩ = some (.int .i64 z0) ∧ w'.cell? ⟨w2.heap.size, 1, none⟩ = some (.int .i64 z1) ∧ w'.cell? ⟨w2.heap.size, 2, none⟩ = some (.int .i64 z2) ∧ w'.cell? ⟨w2.heap.size, 3, none⟩ = some (.int .i64 z3) ∧ w'.cell? ⟨w2.heap.size, 4, none⟩ = some (.int .i64 z4) ∧ w'.cell? ⟨w2.heap.size, 5, none⟩ = some (.int .i64 z5) ∧ w'.cell? ⟨g, 0, none⟩ = some (.int .i64 z0) ∧ w'.cell? ⟨g, 1, none⟩ = some (.int .i64 z1) ∧ w'.cell? ⟨g, 2, none⟩ = some (.int .i64 z2) ∧ w'.cell? ⟨g, 3, none⟩ = some (.int .i64 z3) ∧ w'.cell? ⟨g, 4, none⟩ = some (.int .i64 z4) ∧ w'.cell? ⟨g, 5, none⟩ = some (.int .i64 z5)) ∧ Below Wf.heap.size Wf w') (first | with_reducible exact KS.out _ kb_drew | with_reducible exact KS.out _ (by assumption)) (first | (go_at_call 10; refine (awake_any _ (TF.out.stay (And.right (by assumption)))).mono ?_; rintro e wa ⟨rfl, hba⟩; have hka : Below Wf.heap.size Wf wa := kb_call hba (by assumption)) | (go_at_call 11; refine (HCN.out _ (TF.out.stay (And.right (by assumption))).1).mono ?_; rintro e wb ⟨r, rfl, hr1, hbb⟩; have hkb : Below Wf.heap.size Wf wb := kb_call hbb (by assumption)) | (go_at_call 14; refine (HO.out _).mono ?_; rintro e wd ⟨rfl, hbd⟩; have hkd : Below Wf.heap.size Wf wd := kb_call hbd (by assumption)) | (go_at_call 22; refine (HRC.out _).mono ?_; rintro e we ⟨r2, rfl, hr2, hbe⟩; have hke : Below Wf.heap.size Wf we := kb_call hbe (by assumption); obtain rfl := hr1.one hr2; clear hr2))
    go_wp2
    go_ret
    exact ⟨by simp, hb9.trans (hke.mono hb9.size)⟩

end Go.Proofs.YtmejkpkejohmaaaDoor
