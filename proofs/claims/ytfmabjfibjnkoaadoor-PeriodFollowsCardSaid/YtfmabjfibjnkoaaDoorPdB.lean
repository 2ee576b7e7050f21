/-
  What is proved: the contracts of period's around and pay. Conditions: the tables read as their texts lay them; the calendar is right, and the day is in layer 4's.
-/
import Derived.Test.YtfmabjfibjnkoaaDoorPdA
namespace Go.Proofs.YtfmabjfibjnkoaaDoor
open Go Go.RowKit Go.Proofs
set_option linter.unusedVariables false

/-- What around tells. -/
def AroPost (k f d : Int) (w : World) (e : Ending) (w' : World) : Prop := ∃ a b, e = .returned (.agg #[.int .i64 a, .int .i64 b]) ∧ Blk k f a b ∧ a ≤ d ∧ d < b ∧ Below w.heap.size w w'
theorem tmod_twice {x n : Int} (hn : 0 < n) : (x.tmod n + n) % n = x % n := by
  rw [Int.add_emod_right]
  rw [Int.tmod_eq_emod]
  split
  · simp
  · rename_i h
    rw [show (n.natAbs : Int) = n by omega]
    rw [Int.sub_emod_right]
    simp

theorem tmod_bd {x n : Int} (hn : 0 < n) : -n < x.tmod n ∧ x.tmod n < n := by
  have h1 := Int.emod_nonneg x (show n ≠ 0 by omega)
  have h2 := Int.emod_lt_of_pos x hn
  rw [Int.tmod_eq_emod]
  split
  · omega
  · rename_i h
    have : x % n ≠ 0 := fun e => h (.inr (Int.dvd_of_emod_eq_zero e))
    omega

set_option maxHeartbeats 2000000 in
set_option maxRecDepth 100000 in
theorem around_any (k f l d : Int) (w : World) (hT : Tabs w) (hk : k = 0 ∨ k = 1 ∨ k = 2) (hf : inB f = true) (hd : inB d = true) :
    Calls Tryd.prog 26 #[.agg #[.int .i64 k, .int .i64 f, .int .i64 l], .int .i64 d] w (AroPost k f d w) := by
  obtain ⟨f1, f2⟩ := inB_iff.1 hf
  obtain ⟨d1, d2⟩ := inB_iff.1 hd
  obtain ⟨W2, hW2⟩ : ∃ W2, W2 = (w.alloc (.cells #[.int .i64 k, .int .i64 f, .int .i64 l] 24)).alloc (.cells #[.int .i64 0, .int .i64 0] 28) := ⟨_, rfl⟩
  have hza : (w.alloc (.cells #[.int .i64 k, .int .i64 f, .int .i64 l] 24)).heap.size = w.heap.size + 1 := by simp
  have hb0 : Below w.heap.size w W2 := by rw [hW2]; exact ((Below.refl w.heap.size w).alloc (Nat.le_refl _) _).alloc (by simp) _
  have x0 : W2.cell? ⟨w.heap.size, 0, none⟩ = some (.int .i64 k) := by rw [hW2, World.cell?_alloc_lt _ _ _ (by rw [hza]; show w.heap.size < _; omega), World.cell?_alloc_new]; rfl
  have x1 : W2.cell? ⟨w.heap.size, 1, none⟩ = some (.int .i64 f) := by rw [hW2, World.cell?_alloc_lt _ _ _ (by rw [hza]; show w.heap.size < _; omega), World.cell?_alloc_new]; rfl
  have r0 : W2.cell? ⟨w.heap.size + 1, 0, none⟩ = some (.int .i64 0) := by rw [hW2, ← hza, World.cell?_alloc_new]; rfl
  have r1 : W2.cell? ⟨w.heap.size + 1, 1, none⟩ = some (.int .i64 0) := by rw [hW2, ← hza, World.cell?_alloc_new]; rfl
  have g0 : W2.frozen? ⟨w.heap.size + 1, 0, none⟩ = false := by rw [hW2, ← hza]; simp
  have g1 : W2.frozen? ⟨w.heap.size + 1, 1, none⟩ = false := by rw [hW2, ← hza]; simp
  have hg : w.heap.size + 1 < W2.heap.size := by rw [hW2]; simp
  have hT2 := hT.stay hb0
  obtain ⟨p0, p1, p2⟩ := hT2.2
  have hz := hb0.size
  clear hza
  rcases hk with rfl | hk
  · obtain ⟨y, m, e, ho, hn⟩ := date_of d d1 d2
    obtain ⟨HB, hB1, hB2⟩ := Blk.month (f := f) ho
    have HTo := fun W hL => to_yes y m e d ho hn W hL
    obtain ⟨y1, y2, m1, m2, e1, e2⟩ := okB_iff.1 ho
    have HM := fun W hL => md_any y m W hL
    rw [mdV_in y1 y2 m1 m2] at HM
    have hdb := dim_bd y m
    have hcs := cum_succ y m m1 m2
    have HN : Hid (d - (e - 1) = jan y + cum y m) := Lib.hid (by unfold num at hn; omega)
    have HN2 : Hid (d - (e - 1) + dim y m = jan y + cum y (m + 1)) := Lib.hid (by unfold num at hn; omega)
    rw [hn] at hB1 hB2
    have HBB : Hid (AroPost 0 f d w (.returned (.agg #[.int .i64 (d - (e - 1)), .int .i64 (d - (e - 1) + dim y m)])) w) := Lib.hid ⟨_, _, rfl, by rw [HN2.out, HN.out]; exact HB, by rw [HN.out]; exact hB1, by rw [HN2.out]; exact hB2, Below.refl _ _⟩
    have HTo := Lib.hid HTo
    have HM := Lib.hid HM
    have hL2 := Lib.hid hT2.1
    generalize dim y m = D at *
    clear ho hn HB hB1 hB2 hcs HN HN2 hT hT2 hf hd p1 p2
    rw [hW2] at p0
    go_enter Tryd.func26, Tryd.ntmps26
    go_wp2_with fail
    rw [← hW2]
    clear hW2
    refine (HTo.out _ hL2.out).mono ?_
    rintro e' w3 ⟨rfl, hb3⟩
    obtain ⟨W4, hW4⟩ : ∃ W4, W4 = w3.alloc (.cells #[.int .i64 y, .int .i64 m, .int .i64 e] 65) := ⟨_, rfl⟩
    have hb4 : Below w3.heap.size w3 W4 := by rw [hW4]; exact (Below.refl w3.heap.size w3).alloc (Nat.le_refl _) _
    have t2 : W4.cell? ⟨w3.heap.size, 2, none⟩ = some (.int .i64 e) := by rw [hW4, World.cell?_alloc_new]; rfl
    have hb24 := hb3.trans (hb4.mono hb3.size)
    have hL4 := hL2.out.below hb24 (Nat.le_refl _)
    have s0 := stay hb24 r0
    have s1 := stay hb24 r1
    have k0 := (hb24.frozen (p := ⟨w.heap.size + 1, 0, none⟩) hg).trans g0
    have k1 := (hb24.frozen (p := ⟨w.heap.size + 1, 1, none⟩) hg).trans g1
    have hb5 := hb0.trans (hb24.mono hz)
    clear hb3 hb4 hb24 x0 x1 r0 r1 g0 g1 p0 hb0
    go_wp2_with fail
    rw [← hW4]
    clear hW4
    refine (HM.out _ hL4).mono ?_
    rintro e' w' ⟨rfl, rfl⟩
    have hb6 := (hb5.setCell (p := ⟨w.heap.size + 1, 0, none⟩) (by show w.heap.size ≤ w.heap.size + 1; omega) (.int .i64 (d - (e - 1)))).setCell (p := ⟨w.heap.size + 1, 1, none⟩) (by show w.heap.size ≤ w.heap.size + 1; omega) (.int .i64 (d - (e - 1) + D))
    have q0 : ((W4.setCell ⟨w.heap.size + 1, 0, none⟩ (.int .i64 (d - (e - 1)))).setCell ⟨w.heap.size + 1, 1, none⟩ (.int .i64 (d - (e - 1) + D))).cell? ⟨w.heap.size + 1, 0, none⟩ = some (.int .i64 (d - (e - 1))) := by
      rw [World.cell?_setCell_other _ _ _ _ (fun e => by injection e with _ e; omega)]
      exact World.cell?_setCell_same _ _ _ s0
    have q1 : ((W4.setCell ⟨w.heap.size + 1, 0, none⟩ (.int .i64 (d - (e - 1)))).setCell ⟨w.heap.size + 1, 1, none⟩ (.int .i64 (d - (e - 1) + D))).cell? ⟨w.heap.size + 1, 1, none⟩ = some (.int .i64 (d - (e - 1) + D)) :=
      World.cell?_setCell_same _ _ _ ((World.cell?_setCell_other _ _ _ _ (fun e => by injection e with _ e; omega)).trans s1)
    go_wp2
    refine bodyPost_ret (v := .agg #[.int .i64 (d - (e - 1)), .int .i64 (d - (e - 1) + D)]) (by simp [results, Tryd.results26, go_sem, q0, q1]) rfl ?_
    obtain ⟨a, b, h1, h2, h3, h4, -⟩ := HBB.out
    exact ⟨a, b, h1, h2, h3, h4, hb6⟩
  · obtain ⟨HB, hB1, hB2⟩ := Blk.days (f := f) (d := d) hk
    have hk1 : 1 ≤ k := by omega
    have hk2 : k ≤ 2 := by omega
    have HTM : Hid (((d - f).tmod (14 * k) + 14 * k) % (14 * k) = (d - f) % (14 * k)) := Lib.hid (tmod_twice (by omega))
    have ht1 : -28 ≤ (d - f).tmod (14 * k) ∧ (d - f).tmod (14 * k) ≤ 28 ∧ 0 ≤ (d - f).tmod (14 * k) + 14 * k := by
      have := tmod_bd (x := d - f) (n := 14 * k) (by omega)
      omega
    obtain ⟨t, ht⟩ : ∃ t, (d - f).tmod (14 * k) = t := ⟨_, rfl⟩
    have hpk : W2.cell? ⟨0, k.toNat, none⟩ = some (.int .i64 (14 * k)) := by
      rcases hk with rfl | rfl
      · exact p1
      · exact p2
    rw [ht] at HTM ht1
    have hN1 : 0 ≤ (d - f) % (14 * k) := by rcases hk with rfl | rfl <;> omega
    have hN2 : (d - f) % (14 * k) ≤ 28 := by rcases hk with rfl | rfl <;> omega
    obtain ⟨n, hn⟩ : ∃ n, 14 * k = n := ⟨_, rfl⟩
    rw [hn] at HB hB1 hB2 HTM ht1 ht hpk hN1 hN2
    have hn14 : 14 ≤ n := by omega
    have hn28 : n ≤ 28 := by omega
    obtain ⟨u, hu⟩ : ∃ u, (t + n) % n = u := ⟨_, rfl⟩
    have hu2 : (d - f) % n = u := by rw [← hu]; exact HTM.out.symm
    rw [hu2] at HB hB1 hB2 hN1 hN2
    have hpost : Hid (AroPost k f d w (.returned (.agg #[.int .i64 (d - u), .int .i64 (d - u + n)])) w) := Lib.hid ⟨_, _, rfl, HB, hB1, hB2, Below.refl _ _⟩
    have hne : (n == 0) = false := by simp; omega
    obtain ⟨b1, b2, b3⟩ := ht1
    clear HTM HB hB1 hB2 hu2 hn hk hT hT2 hf hd p0 p1 p2
    have hk3 : k < 3 := by omega
    have hk0 : 0 ≤ k := by omega
    rw [hW2] at hpk x0 x1 r0 r1 g0 g1
    clear hW2 hb0 hz hg
    go_enter Tryd.func26, Tryd.ntmps26
    go_wp2
    refine bodyPost_ret (v := .agg #[.int .i64 (d - u), .int .i64 (d - u + n)]) (by simp [results, Tryd.results26, go_sem]) rfl ?_
    obtain ⟨a, b, h1, h2, h3, h4, -⟩ := hpost.out
    exact ⟨a, b, h1, h2, h3, h4, ((Below.refl _ _).alloc (Nat.le_refl _) _).alloc (by simp) _⟩

/-- When a period is paid. -/
def payV (b l : Int) : Int := min (b - 1 + l) 84005
set_option maxHeartbeats 2000000 in
set_option maxRecDepth 100000 in
theorem pay_any (k f l a b : Int) (w : World) (hL : Len w) (h1 : -1000000 ≤ b) (h2 : b ≤ 1000000) (h3 : 0 ≤ l) (h4 : l ≤ 60) :
    Calls Tryd.prog 41 #[.agg #[.int .i64 k, .int .i64 f, .int .i64 l], .agg #[.int .i64 a, .int .i64 b]] w fun e w' => e = .returned (.int .i64 (payV b l)) ∧ Below w.heap.size w w' := by
  obtain ⟨W2, hW2⟩ : ∃ W2, W2 = (w.alloc (.cells #[.int .i64 k, .int .i64 f, .int .i64 l] 24)).alloc (.cells #[.int .i64 a, .int .i64 b] 28) := ⟨_, rfl⟩
  have hza : (w.alloc (.cells #[.int .i64 k, .int .i64 f, .int .i64 l] 24)).heap.size = w.heap.size + 1 := by simp
  have hb0 : Below w.heap.size w W2 := by rw [hW2]; exact ((Below.refl w.heap.size w).alloc (Nat.le_refl _) _).alloc (by simp) _
  have x2 : W2.cell? ⟨w.heap.size, 2, none⟩ = some (.int .i64 l) := by rw [hW2, World.cell?_alloc_lt _ _ _ (by rw [hza]; show w.heap.size < _; omega), World.cell?_alloc_new]; rfl
  have x1 : W2.cell? ⟨w.heap.size + 1, 1, none⟩ = some (.int .i64 b) := by rw [hW2, ← hza, World.cell?_alloc_new]; rfl
  have hL2 := Lib.hid (hL.below hb0 (Nat.le_refl _))
  have HK : Hid (∀ w', Below W2.heap.size W2 w' → (w'.cell? ⟨w.heap.size, 2, none⟩ = some (.int .i64 l) ∧ w'.cell? ⟨w.heap.size + 1, 1, none⟩ = some (.int .i64 b)) ∧ Below W2.heap.size W2 w') := Lib.hid (fun w' h => ⟨⟨stay h x2, stay h x1⟩, h⟩)
  have HLA : Hid (∀ W, Len W → Calls Tryd.prog 39 #[.int .i64 2199] W fun e w' => e = .returned (.int .i64 84005) ∧ Below W.heap.size W w') := Lib.hid (fun W hL => by
    have := lastDay_any 2199 (by omega) (by omega) W hL
    rwa [show jan (2199 + 1) - 1 = 84005 by decide] at this)
  have HV : Hid (payV b l = min (b - 1 + l) 84005) := Lib.hid rfl
  generalize payV b l = V at *
  have i1 : IntKind.i64.wrap (b - 1) = b - 1 := IntWalk.i64_in _ (by omega)
  have i2 : IntKind.i64.wrap (b - 1 + l) = b - 1 + l := IntWalk.i64_in _ (by omega)
  clear hza h1 h2 h3 h4
  go_enter Tryd.func41, Tryd.ntmps41
  go_wp2
  rw [← hW2]
  clear hW2
  go_region_held3 (fun w' => (w'.cell? ⟨w.heap.size, 2, none⟩ = some (.int .i64 l) ∧ w'.cell? ⟨w.heap.size + 1, 1, none⟩ = some (.int .i64 b)) ∧ Below W2.heap.size W2 w') (first | exact HK.out _ kb_drew | exact HK.out _ (by assumption)) (first | (go_at_call 39; refine (HLA.out _ (hL2.out.below (And.right (by assumption)) (Nat.le_refl _))).mono ?_; rintro e wx ⟨rfl, hbx⟩; have hkx : Below W2.heap.size W2 wx := kb_call hbx (by assumption)))
  go_wp2
  go_ret
  exact ⟨by rw [HV.out]; rfl, hb0.trans (Below.mono (by assumption) hb0.size)⟩

end Go.Proofs.YtfmabjfibjnkoaaDoor
