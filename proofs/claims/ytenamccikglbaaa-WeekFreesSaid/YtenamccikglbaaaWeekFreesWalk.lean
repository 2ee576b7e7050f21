/-
  What is proved: the walk of the statement WeekFrees: the call returns true. Conditions: none beyond what came in.
-/
import Derived.Test.YtenamccikglbaaaWkL
import Derived.Deep.DeepCutAuto
import Derived.Deep.RegionHeld3
namespace Go.Proofs.Ytenamccikglbaaa
open Go Go.RowKit Go.Proofs
set_option linter.unusedVariables false
set_option linter.unusedSimpArgs false

theorem kf_drew {W0 : World} : Below W0.heap.size W0 W0.drew := (Below.refl _ _).drew
theorem kf_call {C : Prop} {W0 w w' : World} (hb : Below w.heap.size w w') (h : C ∧ Below W0.heap.size W0 w) : Below W0.heap.size W0 w' := h.2.trans (hb.mono h.2.size)
theorem kf_step {W0 w w' : World} (hb : Below w.heap.size w w') (h : Below W0.heap.size W0 w) : Below W0.heap.size W0 w' := h.trans (hb.mono h.size)
theorem kf_grown {W0 w w' : World} {e : TypeId} {v : Value} {n : Nat} {xs : List Value} (hg : w.grownBy w' v.ownBlock) (h : Below W0.heap.size W0 w) (ho : w.ownsRow W0.heap.size e 1 v n xs) : Below W0.heap.size W0 w' := h.grown hg h.size (own_base ho)
theorem DaysIn.kp' {C : Prop} {W0 w : World} {p : Option Addr} {L : List Int} (h : DaysIn W0 p L) (k : C ∧ Below W0.heap.size W0 w) : DaysIn w p L := h.below k.2 (Nat.le_refl _)
theorem PatBox.far {W : World} {gp g j : Nat} {q : Nat → Int} {u v : Value} (h : PatBox W gp q v) (hne : gp ≠ g) : PatBox (W.setCell ⟨g, j, none⟩ u) gp q v := by
  have e : ∀ k, (W.setCell ⟨g, j, none⟩ u).cell? ⟨gp, k, none⟩ = W.cell? ⟨gp, k, none⟩ := fun k => World.cell?_of_block (w := W) (a := ⟨gp, k, none⟩) (Below.heap_setCell _ _ _ _ hne)
  exact ⟨fun k hk => (e k).trans (h.1 k hk), (e 7).trans h.2⟩
theorem DaysIn.old {w W : World} {p : Option Addr} {L : List Int} (h : DaysIn w p L) (hb : Below w.heap.size w W) : DaysIn W p L := h.below hb (Nat.le_refl _)
theorem ne_new {w : World} {g : Nat} {v : Value} (h : g < w.heap.size) (hv : v.ownBlock = some w.heap.size) : some g ≠ v.ownBlock := by
  rw [hv]; intro e; injection e; omega
theorem ne_app {w : World} {g : Nat} {v v' : Value} (hne : some g ≠ v.ownBlock) (h : g < w.heap.size) (hat : v'.ownBlock = v.ownBlock ∨ v'.ownBlock = some w.heap.size) : some g ≠ v'.ownBlock := by
  rcases hat with e | e
  · rw [e]; exact hne
  · exact ne_new h e
theorem oneD_in {w : World} {g : Nat} {d : Int} (h : OneD w g d) : DaysIn w (some ⟨g, 0, none⟩) [d] := .inr ⟨g, 0, rfl, fun j hj => by
  have : j = 0 := by simpa using hj
  subst this
  rw [cell_of_row w g (0 + 0) _ _ _ h]
  rfl⟩

set_option maxHeartbeats 8000000 in
set_option maxRecDepth 100000 in
theorem walkWeekFrees (q : Nat → Int) (p : Option Addr) (F : List Int) (c : Nat) (d a b : Int) (w : World) (hD : DaysIn w p F) (hcap : F.length ≤ c) (hmax : F.length ≤ maxLen) (w0 : (Lit.int .i64 d).wf = true) (w1 : -9223372036854775808 ≤ a ∧ a ≤ 9223372036854775807) (w2 : -9223372036854775808 ≤ b ∧ b ≤ 9223372036854775807) :
    Calls Try.prog 6 #[.agg #[.int .i64 (q 0), .int .i64 (q 1), .int .i64 (q 2), .int .i64 (q 3), .int .i64 (q 4), .int .i64 (q 5), .int .i64 (q 6), .slice p F.length c], .int .i64 d, .agg #[.int .i64 a, .int .i64 b]] w fun e w' => e = .returned (.bool true) ∧ Below w.heap.size w w' := by
  have h0p : p = none → F.length = 0 := by
    rintro rfl
    rcases hD with h | ⟨_, _, h, _⟩
    · rw [h]; rfl
    · cases h
  have HR := rChk_any q F p c
  have HI := rin_any d
  obtain ⟨n, hnl⟩ : ∃ n, n = F.length := ⟨_, rfl⟩
  obtain ⟨K, hK⟩ : ∃ K, K = chk q F := ⟨_, rfl⟩
  obtain ⟨J, hJ⟩ : ∃ J, J = inB d := ⟨_, rfl⟩
  rw [← hnl, ← hK] at HR
  rw [← hJ] at HI
  have HG := great_any q n p c
  obtain ⟨gp, hgp⟩ : ∃ g, g = w.heap.size := ⟨_, rfl⟩
  obtain ⟨W1, hW1⟩ : ∃ W1, W1 = (w.alloc (.cells #[.int .i64 (q 0), .int .i64 (q 1), .int .i64 (q 2), .int .i64 (q 3), .int .i64 (q 4), .int .i64 (q 5), .int .i64 (q 6), .slice p n c] 26)).alloc (.cells #[.int .i64 a, .int .i64 b] 37) := ⟨_, rfl⟩
  have hza : (w.alloc (.cells #[.int .i64 (q 0), .int .i64 (q 1), .int .i64 (q 2), .int .i64 (q 3), .int .i64 (q 4), .int .i64 (q 5), .int .i64 (q 6), .slice p n c] 26)).heap.size = w.heap.size + 1 := by simp
  have hb0 : Below w.heap.size w W1 := by rw [hW1]; exact ((Below.refl w.heap.size w).alloc (Nat.le_refl _) _).alloc (by simp) _
  have hP : PatBox W1 w.heap.size q (.slice p n c) := by rw [hW1]; exact (PatBox.new q _ w _).below ((Below.refl _ _).alloc (Nat.le_refl _) _)
  have s0 : W1.cell? ⟨w.heap.size + 1, 0, none⟩ = some (.int .i64 a) := by rw [hW1, ← hza, World.cell?_alloc_new]; rfl
  have s1 : W1.cell? ⟨w.heap.size + 1, 1, none⟩ = some (.int .i64 b) := by rw [hW1, ← hza, World.cell?_alloc_new]; rfl
  have f0 : W1.frozen? ⟨w.heap.size + 1, 0, none⟩ = false := by rw [hW1, ← hza]; exact (frozen_of_row _ _ _ _ _ (heap_new _ _))
  have f1 : W1.frozen? ⟨w.heap.size + 1, 1, none⟩ = false := by rw [hW1, ← hza]; exact (frozen_of_row _ _ _ _ _ (heap_new _ _))
  have d0 := hD.below hb0 (Nat.le_refl _)
  replace HR := Lib.hid HR
  replace HI := Lib.hid HI
  have HK := Lib.hid hK
  have HJ := Lib.hid hJ
  have HN := Lib.hid hnl
  have HD0 := Lib.hid hD
  have HW0 := Lib.hid w0
  rw [← hnl]
  rw [← hnl] at h0p hcap
  have H0P := Lib.hid h0p
  clear hD hmax w0 hza hK hJ hnl h0p
  by_cases hbig : 300 < n
  · rw [decide_eq_true hbig] at HG
    replace HG := Lib.hid HG
    clear hbig
    obtain ⟨z0, z1, z2, z3, z4, z5, z6, z7⟩ := hP.all
    go_enter Try.func6, Try.ntmps6
    go_wp2_with fail
    rw [← hW1]
    clear hW1
    refine (HG.out _).mono ?_
    rintro e w2 ⟨rfl, hb2⟩
    have d1 := d0.stay hb2
    have hP1 := hP.below hb2
    have t0 := stay hb2 s0
    have t1 := stay hb2 s1
    have g0 := (hb2.frozen (p := ⟨w.heap.size + 1, 0, none⟩) (World.block_lt_of_cell? _ _ s0)).trans f0
    have g1 := (hb2.frozen (p := ⟨w.heap.size + 1, 1, none⟩) (World.block_lt_of_cell? _ _ s1)).trans f1
    have hb3 := hb0.trans (hb2.mono hb0.size)
    clear z0 z1 z2 z3 z4 z5 z6 z7 d0 hP hb0 hb2 s0 s1 f0 f1
    obtain ⟨z0, z1, z2, z3, z4, z5, z6, z7⟩ := hP1.all
    go_wp2_with fail
    refine (awake_any _).mono ?_
    rintro e w9 ⟨rfl, hb9⟩
    have hbz := hb3.trans (hb9.mono hb3.size)
    go_wp2
    go_ret
    exact ⟨rfl, hbz⟩
  rw [decide_eq_false hbig] at HG
  replace HG := Lib.hid HG
  have hn3 : n ≤ 300 := by omega
  clear hbig
  by_cases hz : K = 0
  rotate_left 1
  · have e1 : (K != 0) = true := by simpa using hz
    obtain ⟨z0, z1, z2, z3, z4, z5, z6, z7⟩ := hP.all
    go_enter Try.func6, Try.ntmps6
    go_wp2_with fail
    rw [← hW1]
    clear hW1
    refine (HG.out _).mono ?_
    rintro e w2 ⟨rfl, hb2⟩
    have d1 := d0.stay hb2
    have hP1 := hP.below hb2
    have t0 := stay hb2 s0
    have t1 := stay hb2 s1
    have g0 := (hb2.frozen (p := ⟨w.heap.size + 1, 0, none⟩) (World.block_lt_of_cell? _ _ s0)).trans f0
    have g1 := (hb2.frozen (p := ⟨w.heap.size + 1, 1, none⟩) (World.block_lt_of_cell? _ _ s1)).trans f1
    have hb3 := hb0.trans (hb2.mono hb0.size)
    clear z0 z1 z2 z3 z4 z5 z6 z7 d0 hP hb0 hb2 s0 s1 f0 f1
    obtain ⟨z0, z1, z2, z3, z4, z5, z6, z7⟩ := hP1.all
    go_wp2_with fail
    refine (HR.out _ d1).mono ?_
    rintro e w4 ⟨rfl, hb4⟩
    have d2 := d1.stay hb4
    have hP2 := hP1.below hb4
    have s0 := stay hb4 t0
    have s1 := stay hb4 t1
    have f0 := (hb4.frozen (p := ⟨w.heap.size + 1, 0, none⟩) (World.block_lt_of_cell? _ _ t0)).trans g0
    have f1 := (hb4.frozen (p := ⟨w.heap.size + 1, 1, none⟩) (World.block_lt_of_cell? _ _ t1)).trans g1
    have hb5 := hb3.trans (hb4.mono hb3.size)
    clear z0 z1 z2 z3 z4 z5 z6 z7 d1 hP1 hb3 hb4 t0 t1 g0 g1
    obtain ⟨z0, z1, z2, z3, z4, z5, z6, z7⟩ := hP2.all
    go_wp2_with fail
    refine (awake_any _).mono ?_
    rintro e w9 ⟨rfl, hb9⟩
    have hbz := hb5.trans (hb9.mono hb5.size)
    go_wp2
    go_ret
    exact ⟨rfl, hbz⟩
  subst hz
  cases J with
  | false =>
    obtain ⟨z0, z1, z2, z3, z4, z5, z6, z7⟩ := hP.all
    go_enter Try.func6, Try.ntmps6
    go_wp2_with fail
    rw [← hW1]
    clear hW1
    refine (HG.out _).mono ?_
    rintro e w2 ⟨rfl, hb2⟩
    have d1 := d0.stay hb2
    have hP1 := hP.below hb2
    have t0 := stay hb2 s0
    have t1 := stay hb2 s1
    have g0 := (hb2.frozen (p := ⟨w.heap.size + 1, 0, none⟩) (World.block_lt_of_cell? _ _ s0)).trans f0
    have g1 := (hb2.frozen (p := ⟨w.heap.size + 1, 1, none⟩) (World.block_lt_of_cell? _ _ s1)).trans f1
    have hb3 := hb0.trans (hb2.mono hb0.size)
    clear z0 z1 z2 z3 z4 z5 z6 z7 d0 hP hb0 hb2 s0 s1 f0 f1
    obtain ⟨z0, z1, z2, z3, z4, z5, z6, z7⟩ := hP1.all
    go_wp2_with fail
    refine (HR.out _ d1).mono ?_
    rintro e w4 ⟨rfl, hb4⟩
    have d2 := d1.stay hb4
    have hP2 := hP1.below hb4
    have s0 := stay hb4 t0
    have s1 := stay hb4 t1
    have f0 := (hb4.frozen (p := ⟨w.heap.size + 1, 0, none⟩) (World.block_lt_of_cell? _ _ t0)).trans g0
    have f1 := (hb4.frozen (p := ⟨w.heap.size + 1, 1, none⟩) (World.block_lt_of_cell? _ _ t1)).trans g1
    have hb5 := hb3.trans (hb4.mono hb3.size)
    clear z0 z1 z2 z3 z4 z5 z6 z7 d1 hP1 hb3 hb4 t0 t1 g0 g1
    obtain ⟨z0, z1, z2, z3, z4, z5, z6, z7⟩ := hP2.all
    go_wp2_with fail
    refine (HI.out _).mono ?_
    rintro e w6 ⟨rfl, rfl⟩
    go_wp2_with fail
    refine (awake_any _).mono ?_
    rintro e w9 ⟨rfl, hb9⟩
    have hbz := hb5.trans (hb9.mono hb5.size)
    go_wp2
    go_ret
    exact ⟨rfl, hbz⟩
  | true =>
    by_cases hl : 0 < n ∧ d ≤ F.getD (n - 1) 0
    · obtain ⟨m, rfl⟩ : ∃ m, n = m + 1 := ⟨n - 1, by omega⟩
      have i2 : ((m + 1 : Nat) : Int) - 1 = (m : Int) := by omega
      have i3 : (0 : Int) < ((m + 1 : Nat) : Int) := by omega
      have hl2 : d ≤ F.getD m 0 := hl.2
      clear hl
      obtain ⟨z0, z1, z2, z3, z4, z5, z6, z7⟩ := hP.all
      go_enter Try.func6, Try.ntmps6
      go_wp2_with fail
      rw [← hW1]
      clear hW1
      refine (HG.out _).mono ?_
      rintro e w2 ⟨rfl, hb2⟩
      have d1 := d0.stay hb2
      have hP1 := hP.below hb2
      have t0 := stay hb2 s0
      have t1 := stay hb2 s1
      have g0 := (hb2.frozen (p := ⟨w.heap.size + 1, 0, none⟩) (World.block_lt_of_cell? _ _ s0)).trans f0
      have g1 := (hb2.frozen (p := ⟨w.heap.size + 1, 1, none⟩) (World.block_lt_of_cell? _ _ s1)).trans f1
      have hb3 := hb0.trans (hb2.mono hb0.size)
      clear z0 z1 z2 z3 z4 z5 z6 z7 d0 hP hb0 hb2 s0 s1 f0 f1
      obtain ⟨z0, z1, z2, z3, z4, z5, z6, z7⟩ := hP1.all
      go_wp2_with fail
      refine (HR.out _ d1).mono ?_
      rintro e w4 ⟨rfl, hb4⟩
      have d2 := d1.stay hb4
      have hP2 := hP1.below hb4
      have s0 := stay hb4 t0
      have s1 := stay hb4 t1
      have f0 := (hb4.frozen (p := ⟨w.heap.size + 1, 0, none⟩) (World.block_lt_of_cell? _ _ t0)).trans g0
      have f1 := (hb4.frozen (p := ⟨w.heap.size + 1, 1, none⟩) (World.block_lt_of_cell? _ _ t1)).trans g1
      have hb5 := hb3.trans (hb4.mono hb3.size)
      clear z0 z1 z2 z3 z4 z5 z6 z7 d1 hP1 hb3 hb4 t0 t1 g0 g1
      obtain ⟨z0, z1, z2, z3, z4, z5, z6, z7⟩ := hP2.all
      rcases d2 with h | ⟨bb, oo, rfl, hc⟩
      · have := HN.out; rw [h] at this; simp at this
      have xk := hc m (by have := HN.out; omega)
      generalize F.getD m 0 = y at *
      go_wp2_with fail
      refine (HI.out _).mono ?_
      rintro e w6 ⟨rfl, rfl⟩
      go_wp2_with fail
      refine (awake_any _).mono ?_
      rintro e w9 ⟨rfl, hb9⟩
      have hbz := hb5.trans (hb9.mono hb5.size)
      go_wp2
      go_ret
      exact ⟨rfl, hbz⟩
    · have hlast : 0 < n → F.getD (n - 1) 0 < d := fun h => by
        rcases Int.lt_or_le (F.getD (n - 1) 0) d with h1 | h1
        · exact h1
        · exact absurd ⟨h, h1⟩ hl
      clear hl
      obtain ⟨hd1, hd2⟩ := inB_iff.1 HJ.out.symm
      go_enter Try.func6, Try.ntmps6
      go_upto_region 1 with fail
      rw [← hW1]
      clear hW1
      go_cut [41] (fun v wx => v = .bool false ∧ PatBox wx w.heap.size q (.slice p n c) ∧ DaysIn wx p F ∧ wx.frozen? ⟨w.heap.size + 1, 0, none⟩ = false ∧ wx.frozen? ⟨w.heap.size + 1, 1, none⟩ = false ∧ Below w.heap.size w wx ∧ wx.cell? ⟨w.heap.size + 1, 0, none⟩ = some (.int .i64 a) ∧ wx.cell? ⟨w.heap.size + 1, 1, none⟩ = some (.int .i64 b))
      case first =>
        obtain ⟨z0, z1, z2, z3, z4, z5, z6, z7⟩ := hP.all
        go_wp2_with fail
        refine (HG.out _).mono ?_
        rintro e w2 ⟨rfl, hb2⟩
        have d1 := d0.stay hb2
        have hP1 := hP.below hb2
        have t0 := stay hb2 s0
        have t1 := stay hb2 s1
        have g0 := (hb2.frozen (p := ⟨w.heap.size + 1, 0, none⟩) (World.block_lt_of_cell? _ _ s0)).trans f0
        have g1 := (hb2.frozen (p := ⟨w.heap.size + 1, 1, none⟩) (World.block_lt_of_cell? _ _ s1)).trans f1
        have hb3 := hb0.trans (hb2.mono hb0.size)
        clear z0 z1 z2 z3 z4 z5 z6 z7 d0 hP hb0 hb2 s0 s1 f0 f1
        obtain ⟨z0, z1, z2, z3, z4, z5, z6, z7⟩ := hP1.all
        go_wp2_with fail
        refine (HR.out _ d1).mono ?_
        rintro e w4 ⟨rfl, hb4⟩
        have d2 := d1.stay hb4
        have hP2 := hP1.below hb4
        have s0 := stay hb4 t0
        have s1 := stay hb4 t1
        have f0 := (hb4.frozen (p := ⟨w.heap.size + 1, 0, none⟩) (World.block_lt_of_cell? _ _ t0)).trans g0
        have f1 := (hb4.frozen (p := ⟨w.heap.size + 1, 1, none⟩) (World.block_lt_of_cell? _ _ t1)).trans g1
        have hb5 := hb3.trans (hb4.mono hb3.size)
        clear z0 z1 z2 z3 z4 z5 z6 z7 d1 hP1 hb3 hb4 t0 t1 g0 g1
        obtain ⟨z0, z1, z2, z3, z4, z5, z6, z7⟩ := hP2.all
        have HD2 := Lib.hid d2
        go_wp2_with fail
        refine (HI.out _).mono ?_
        rintro e w6 ⟨rfl, rfl⟩
        rcases Nat.eq_zero_or_pos n with h0 | h0
        · have i3 : ¬ (0 : Int) < (n : Int) := by omega
          have i4 : decide ((0 : Int) < (n : Int)) = false := decide_eq_false i3
          clear d2 h0 hlast
          go_wp2
          go_meet
          case rel => exact ⟨rfl, hP2, HD2.out, f0, f1, hb5, s0, s1⟩
        · obtain ⟨m, rfl⟩ : ∃ m, n = m + 1 := ⟨n - 1, by omega⟩
          have i2 : ((m + 1 : Nat) : Int) - 1 = (m : Int) := by omega
          have i3 : (0 : Int) < ((m + 1 : Nat) : Int) := by omega
          have hl2 : F.getD m 0 < d := hlast h0
          clear hlast h0
          rcases d2 with h | ⟨bb, oo, rfl, hc⟩
          · have := HN.out; rw [h] at this; simp at this
          have xk := hc m (by have := HN.out; omega)
          clear hc
          generalize F.getD m 0 = y at *
          have i4 : ¬ d ≤ y := by omega
          go_wp2
          go_meet
          case rel => exact ⟨congrArg Value.bool (decide_eq_false (Int.not_le.2 hl2)), hP2, HD2.out, f0, f1, hb5, s0, s1⟩
      case rest =>
      clear hP d0 f0 f1 hb0 s0 s1 HG HR HI
      obtain ⟨rfl, hP, d0, f0, f1, hb0, s0, s1⟩ := hcut
      go_upto_region 3 with fail
      obtain ⟨T, hT⟩ : ∃ T : Bool, T = (decide (b < a) || decide (3000 < wrap64 (b - a))) := ⟨_, rfl⟩
      have HT := Lib.hid hT
      clear hT
      go_cut [55] (fun v wx => v = .bool T ∧ PatBox wx w.heap.size q (.slice p n c) ∧ DaysIn wx p F ∧ wx.frozen? ⟨w.heap.size + 1, 0, none⟩ = false ∧ wx.frozen? ⟨w.heap.size + 1, 1, none⟩ = false ∧ Below w.heap.size w wx ∧ wx.cell? ⟨w.heap.size + 1, 0, none⟩ = some (.int .i64 a) ∧ wx.cell? ⟨w.heap.size + 1, 1, none⟩ = some (.int .i64 b))
      case first =>
        by_cases c1 : b < a
        · obtain rfl : T = true := by rw [HT.out, decide_eq_true c1]; rfl
          go_wp2
          go_meet
          case rel => exact ⟨rfl, hP, d0, f0, f1, hb0, s0, s1⟩
        · by_cases c2 : 3000 < wrap64 (b - a)
          · obtain rfl : T = true := by rw [HT.out, decide_eq_false c1, decide_eq_true c2]; rfl
            have c4 : decide (3000 < wrap64 (b - a)) = true := decide_eq_true c2
            have c3 := decide_eq_true c2
            replace c4 := Lib.hid c4
            go_wp2
            go_meet
            case rel => exact ⟨rfl, hP, d0, f0, f1, hb0, s0, s1⟩
          · obtain rfl : T = false := by rw [HT.out, decide_eq_false c1, decide_eq_false c2]; rfl
            have c4 : decide (3000 < wrap64 (b - a)) = false := decide_eq_false c2
            have c3 := decide_eq_false c2
            replace c4 := Lib.hid c4
            go_wp2
            go_meet
            case rel => exact ⟨rfl, hP, d0, f0, f1, hb0, s0, s1⟩
      case rest =>
      clear hP d0 f0 f1 hb0 s0 s1
      obtain ⟨rfl, hP, d0, f0, f1, hb0, s0, s1⟩ := hcut
      go_upto_if 55 with fail
      go_cut [] (fun wx => ∃ A B : Int, PatBox wx w.heap.size q (.slice p n c) ∧ DaysIn wx p F ∧ Below w.heap.size w wx ∧ wx.cell? ⟨w.heap.size + 1, 0, none⟩ = some (.int .i64 A) ∧ wx.cell? ⟨w.heap.size + 1, 1, none⟩ = some (.int .i64 B))
      case first =>
        cases T with
        | true =>
          clear HT
          go_wp2
          go_meet
          case rel =>
            have hbx : Below w.heap.size w ((wc.setCell ⟨w.heap.size + 1, 0, none⟩ (.int .i64 (d - 3))).setCell ⟨w.heap.size + 1, 1, none⟩ (.int .i64 (d + 9))) := (hb0.setCell (p := ⟨w.heap.size + 1, 0, none⟩) (Nat.le_succ _) _).setCell (p := ⟨w.heap.size + 1, 1, none⟩) (Nat.le_succ _) _
            have e0 := (so (w := wc.setCell ⟨w.heap.size + 1, 0, none⟩ (.int .i64 (d - 3))) (g := w.heap.size + 1) (j := 1) (k := 0) (v := .int .i64 (d + 9)) (by decide)).trans (World.cell?_setCell_same _ _ _ s0)
            have e1 := World.cell?_setCell_same (wc.setCell ⟨w.heap.size + 1, 0, none⟩ (.int .i64 (d - 3))) ⟨w.heap.size + 1, 1, none⟩ (.int .i64 (d + 9)) ((so (by decide)).trans s1)
            exact ⟨d - 3, d + 9, (hP.far (by omega)).far (by omega), HD0.out.old hbx, hbx, e0, e1⟩
        | false =>
          clear HT
          go_wp2
          go_meet
          case rel => exact ⟨a, b, hP, d0, hb0, s0, s1⟩
      case rest =>
      clear hP d0 f0 f1 hb0 s0 s1 HT w1 w2 HW0
      obtain ⟨A, B, hP, d0, hb0, s0, s1⟩ := hcut
      obtain ⟨W4, hW4⟩ : ∃ W4, W4 = wc := ⟨_, rfl⟩
      rw [← hW4] at hP d0 hb0 s0 s1 ⊢
      clear hW4
      go_upto_region 5 with fail
      go_cut [7] (fun s7 wx => NewP W4 wx n q (F ++ [d]) s7)
      case first =>
        have hKP : Hid (∀ w', Below W4.heap.size W4 w' → PatBox w' w.heap.size q (.slice p n c) ∧ Below W4.heap.size W4 w') := Lib.hid (fun w' h => ⟨hP.below h, h⟩)
        refine wp_region_held_drew (S := (fun w' => PatBox w' w.heap.size q (.slice p n c) ∧ Below W4.heap.size W4 w')) (by kernel_rfl) (hKP.out _ kf_drew) (fun hHeld => ?_)
        refine wpAnyH_take (i := 0) (oi := { dst := some 61, op := Op.fieldAddr 26 (Operand.tmp 3) 0, type := 0, pos := "law.go:70", after := #[], guard := none }) (v := ?_) rfl (by kernel_rfl) (by kernel_rfl) (by kernel_rfl) (fun _ _ _ h => h) (Or.inl ⟨by kernel_rfl, ?_⟩) (by assumption) ?_
        rotate_left 1
        · intro w' hSw
          (try dsimp only at hSw)
          obtain ⟨z0, z1, z2, z3, z4, z5, z6, z7⟩ := PatBox.all hSw.1
          clear hSw
          go_simp
          all_goals (with_reducible rfl)
        try (conv => arg 8; simp only [Act.put, List.setIfInBounds_toArray, List.set_cons_zero, List.set_cons_succ])
        refine wpAnyH_take (i := 1) (oi := { dst := some 62, op := Op.load 23 (Operand.tmp 61), type := 23, pos := "law.go:70", after := #[{ on := 0, ground := Ground.data }], guard := none }) (v := ?_) rfl (by kernel_rfl) (by kernel_rfl) (by kernel_rfl) (fun _ _ _ h => h) (Or.inl ⟨by kernel_rfl, ?_⟩) (by assumption) ?_
        rotate_left 1
        · intro w' hSw
          (try dsimp only at hSw)
          obtain ⟨z0, z1, z2, z3, z4, z5, z6, z7⟩ := PatBox.all hSw.1
          clear hSw
          go_simp
          all_goals (with_reducible rfl)
        try (conv => arg 8; simp only [Act.put, List.setIfInBounds_toArray, List.set_cons_zero, List.set_cons_succ])
        refine wpAnyH_take (i := 3) (oi := { dst := some 64, op := Op.fieldAddr 26 (Operand.tmp 3) 1, type := 0, pos := "law.go:70", after := #[], guard := none }) (v := ?_) rfl (by kernel_rfl) (by kernel_rfl) (by kernel_rfl) (fun _ _ _ h => h) (Or.inl ⟨by kernel_rfl, ?_⟩) (by assumption) ?_
        rotate_left 1
        · intro w' hSw
          (try dsimp only at hSw)
          obtain ⟨z0, z1, z2, z3, z4, z5, z6, z7⟩ := PatBox.all hSw.1
          clear hSw
          go_simp
          all_goals (with_reducible rfl)
        try (conv => arg 8; simp only [Act.put, List.setIfInBounds_toArray, List.set_cons_zero, List.set_cons_succ])
        refine wpAnyH_take (i := 4) (oi := { dst := some 65, op := Op.load 24 (Operand.tmp 64), type := 24, pos := "law.go:70", after := #[{ on := 3, ground := Ground.data }], guard := none }) (v := ?_) rfl (by kernel_rfl) (by kernel_rfl) (by kernel_rfl) (fun _ _ _ h => h) (Or.inl ⟨by kernel_rfl, ?_⟩) (by assumption) ?_
        rotate_left 1
        · intro w' hSw
          (try dsimp only at hSw)
          obtain ⟨z0, z1, z2, z3, z4, z5, z6, z7⟩ := PatBox.all hSw.1
          clear hSw
          go_simp
          all_goals (with_reducible rfl)
        try (conv => arg 8; simp only [Act.put, List.setIfInBounds_toArray, List.set_cons_zero, List.set_cons_succ])
        refine wpAnyH_take (i := 6) (oi := { dst := some 67, op := Op.move (Operand.tmp 1), type := 27, pos := "law.go:70", after := #[], guard := none }) (v := ?_) rfl (by kernel_rfl) (by kernel_rfl) (by kernel_rfl) (fun _ _ _ h => h) (Or.inl ⟨by kernel_rfl, ?_⟩) (by assumption) ?_
        rotate_left 1
        · intro w' hSw
          (try dsimp only at hSw)
          obtain ⟨z0, z1, z2, z3, z4, z5, z6, z7⟩ := PatBox.all hSw.1
          clear hSw
          go_simp
          all_goals (with_reducible rfl)
        try (conv => arg 8; simp only [Act.put, List.setIfInBounds_toArray, List.set_cons_zero, List.set_cons_succ])
        clear hHeld
        have hk : Below W4.heap.size W4 W4.drew := kf_drew
        refine wpAnyH_ready (rs := [2,7,10]) (by kernel_rfl) (by simp) ?_
        refine AllReadyH.cons (o := { dst := some 63, op := Op.buildSlice 24 0 #[], type := 24, pos := "law.go:70", after := #[], guard := none }) rfl (fun K hK => ?_) ?_
        · refine step_bs0 63 rfl rfl rfl W4.heap.size hk.size ?_
          intro v y0 hO hv hb
          clear hv
          replace hk := kf_step hb hk
          clear hb
          refine hK.out _ _ (hKP.out _ hk) (fun hHeld => ?_)
          clear hK K
          try (conv => arg 8; simp only [Act.put, List.setIfInBounds_toArray, List.set_cons_zero, List.set_cons_succ])
          clear hHeld
          refine wpAnyH_ready (rs := [5,7,10]) (by kernel_rfl) (by simp) ?_
          refine AllReadyH.cons (o := { dst := some 66, op := Op.call { callee := Callee.builtin Builtin.append, args := #[Operand.tmp 63, Operand.tmp 65], argTypes := #[24, 24] }, type := 24, pos := "law.go:70", after := #[{ on := 2, ground := Ground.data }, { on := 4, ground := Ground.data }], guard := none }) rfl (fun K hK => ?_) ?_
          · refine step_app 66 _ _ rfl rfl rfl W4.heap.size v 0 [] rfl hO p n c F rfl HN.out (DaysIn.below d0 hk (Nat.le_refl _)) H0P.out (by omega) hk.size ?_
            intro v2 y1 hO2 hgr hat
            replace hk := kf_grown hgr hk hO
            clear hgr hat hO
            rw [List.nil_append, Nat.zero_add] at hO2
            refine hK.out _ _ (hKP.out _ hk) (fun hHeld => ?_)
            clear hK K
            try (conv => arg 8; simp only [Act.put, List.setIfInBounds_toArray, List.set_cons_zero, List.set_cons_succ])
            clear hHeld
            refine wpAnyH_ready (rs := [7,10]) (by kernel_rfl) (by simp) ?_
            refine AllReadyH.cons (o := { dst := some 68, op := Op.buildSlice 24 1 #[(0, Operand.tmp 67)], type := 24, pos := "law.go:70", after := #[{ on := 6, ground := Ground.data }], guard := none }) rfl (fun K hK => ?_) ?_
            · refine step_bs1 68 _ d rfl rfl rfl rfl ?_
              intro gt y2 hT' et hb
              have hne2 := own_lt hO2 (g := gt) (by omega)
              clear et
              replace hO2 := own_below hO2 hb
              replace hk := kf_step hb hk
              clear hb
              have hT := hT'
              clear hT'
              refine hK.out _ _ (hKP.out _ hk) (fun hHeld => ?_)
              clear hK K
              try (conv => arg 8; simp only [Act.put, List.setIfInBounds_toArray, List.set_cons_zero, List.set_cons_succ])
              clear hHeld
              refine wpAnyH_ready (rs := [8,10]) (by kernel_rfl) (by simp) ?_
              refine AllReadyH.cons (o := { dst := some 69, op := Op.call { callee := Callee.builtin Builtin.append, args := #[Operand.tmp 66, Operand.tmp 68], argTypes := #[24, 24] }, type := 24, pos := "law.go:70", after := #[{ on := 5, ground := Ground.data }, { on := 7, ground := Ground.data }, { on := 5, ground := Ground.chain }], guard := none }) rfl (fun K hK => ?_) ?_
              · refine step_app 69 _ _ rfl rfl rfl W4.heap.size v2 n F rfl hO2 (some ⟨gt, 0, none⟩) 1 1 [d] rfl rfl (oneD_in hT) (fun h => by cases h) (by omega) hk.size ?_
                intro v3 y3 hO3 hgr hat
                replace hk := kf_grown hgr hk hO2
                clear hgr hat hO2 hT hne2
                obtain ⟨gr, cr, rfl, -, -⟩ := World.ownsRow.form hO3 (by omega)
                refine hK.out _ _ (hKP.out _ hk) (fun hHeld => ?_)
                clear hK K
                try (conv => arg 8; simp only [Act.put, List.setIfInBounds_toArray, List.set_cons_zero, List.set_cons_succ])
                refine wpAnyH_take (i := 9) (oi := { dst := some 70, op := Op.build 26 #[(0, Operand.tmp 62), (1, Operand.tmp 69)], type := 26, pos := "law.go:70", after := #[{ on := 1, ground := Ground.data }, { on := 8, ground := Ground.data }], guard := none }) (v := ?_) rfl (by kernel_rfl) (by kernel_rfl) (by kernel_rfl) (fun _ _ _ h => h) (Or.inl ⟨by kernel_rfl, ?_⟩) (by assumption) ?_
                rotate_left 1
                · intro w' hSw
                  (try dsimp only at hSw)
                  obtain ⟨z0, z1, z2, z3, z4, z5, z6, z7⟩ := PatBox.all hSw.1
                  clear hSw
                  go_simp
                  all_goals (with_reducible rfl)
                try (conv => arg 8; simp only [Act.put, List.setIfInBounds_toArray, List.set_cons_zero, List.set_cons_succ])
                clear hHeld
                refine wpAnyH_ready (rs := [10]) (by kernel_rfl) (by simp) ?_
                refine AllReadyH.cons (o := { dst := some 7, op := Op.alloc 26, type := 0, pos := "law.go:70", after := #[], guard := none }) rfl (fun K hK => ?_) AllReadyH.nil
                refine step_new8 7 rfl rfl rfl ?_
                intro gn y4 hG' eg hb
                have hgn : W4.heap.size ≤ gn := by rw [eg]; exact hk.size
                clear eg
                replace hO3 := own_below hO3 hb
                skip
                replace hk := kf_step hb hk
                clear hb
                have hG := hG'
                clear hG'
                refine hK.out _ _ (hKP.out _ hk) (fun hHeld => ?_)
                clear hK K
                try (conv => arg 8; simp only [Act.put, List.setIfInBounds_toArray, List.set_cons_zero, List.set_cons_succ])
                clear hHeld
                refine wpAnyH_ready (rs := [11]) (by kernel_rfl) (by simp) ?_
                refine AllReadyH.cons (o := { dst := none, op := Op.store 26 (Operand.tmp 7) (Operand.tmp 70), type := 0, pos := "law.go:70", after := #[{ on := 10, ground := Ground.data }, { on := 9, ground := Ground.data }, { on := 8, ground := Ground.chain }, { on := 0, ground := Ground.phase }, { on := 1, ground := Ground.phase }, { on := 2, ground := Ground.phase }, { on := 3, ground := Ground.phase }, { on := 4, ground := Ground.phase }, { on := 5, ground := Ground.phase }, { on := 6, ground := Ground.phase }, { on := 7, ground := Ground.phase }, { on := 8, ground := Ground.phase }, { on := 9, ground := Ground.phase }, { on := 10, ground := Ground.phase }], guard := none }) rfl (fun K hK => ?_) AllReadyH.nil
                refine step_storeP _ _ rfl rfl rfl gn q (some ⟨gr, 0, none⟩) (n + 1) cr rfl rfl hG ?_
                intro w5 e5
                have hk5 : Below W4.heap.size W4 w5 := by rw [e5.out]; exact putP_below hk hgn
                refine hK.out _ _ (hKP.out _ hk5) (fun hHeld => ?_)
                clear hK K
                try (conv => arg 8; simp only [Act.put, List.setIfInBounds_toArray, List.set_cons_zero, List.set_cons_succ])
                refine wpAnyH_done (by kernel_rfl) ?_ _
                try simp only [Act.put, List.getElem_toArray, List.getElem_cons_succ, List.getElem_cons_zero, List.setIfInBounds_toArray, List.set_cons_zero, List.set_cons_succ]
                go_wp2_with fail
                go_meet
                case rel => exact newP_end hG hO3 (by rw [List.length_append, ← HN.out]; rfl) hk hgn e5.out
              refine AllReadyH.cons (o := { dst := some 7, op := Op.alloc 26, type := 0, pos := "law.go:70", after := #[], guard := none }) rfl (fun K hK => ?_) AllReadyH.nil
              refine step_new8 7 rfl rfl rfl ?_
              intro gn y3 hG' eg hb
              have hgn : W4.heap.size ≤ gn := by rw [eg]; exact hk.size
              clear eg
              replace hO2 := own_below hO2 hb
              replace hT := OneD.below hT hb
              replace hk := kf_step hb hk
              clear hb
              have hG := hG'
              clear hG'
              refine hK.out _ _ (hKP.out _ hk) (fun hHeld => ?_)
              clear hK K
              try (conv => arg 8; simp only [Act.put, List.setIfInBounds_toArray, List.set_cons_zero, List.set_cons_succ])
              clear hHeld
              refine wpAnyH_ready (rs := [8]) (by kernel_rfl) (by simp) ?_
              refine AllReadyH.cons (o := { dst := some 69, op := Op.call { callee := Callee.builtin Builtin.append, args := #[Operand.tmp 66, Operand.tmp 68], argTypes := #[24, 24] }, type := 24, pos := "law.go:70", after := #[{ on := 5, ground := Ground.data }, { on := 7, ground := Ground.data }, { on := 5, ground := Ground.chain }], guard := none }) rfl (fun K hK => ?_) AllReadyH.nil
              refine step_app 69 _ _ rfl rfl rfl W4.heap.size v2 n F rfl hO2 (some ⟨gt, 0, none⟩) 1 1 [d] rfl rfl (oneD_in hT) (fun h => by cases h) (by omega) hk.size ?_
              intro v3 y4 hO3 hgr hat
              replace hG := Fr8.grown hG hgr (Fr8.far hG hO2)
              replace hk := kf_grown hgr hk hO2
              clear hgr hat hO2 hT hne2
              obtain ⟨gr, cr, rfl, -, -⟩ := World.ownsRow.form hO3 (by omega)
              refine hK.out _ _ (hKP.out _ hk) (fun hHeld => ?_)
              clear hK K
              try (conv => arg 8; simp only [Act.put, List.setIfInBounds_toArray, List.set_cons_zero, List.set_cons_succ])
              refine wpAnyH_take (i := 9) (oi := { dst := some 70, op := Op.build 26 #[(0, Operand.tmp 62), (1, Operand.tmp 69)], type := 26, pos := "law.go:70", after := #[{ on := 1, ground := Ground.data }, { on := 8, ground := Ground.data }], guard := none }) (v := ?_) rfl (by kernel_rfl) (by kernel_rfl) (by kernel_rfl) (fun _ _ _ h => h) (Or.inl ⟨by kernel_rfl, ?_⟩) (by assumption) ?_
              rotate_left 1
              · intro w' hSw
                (try dsimp only at hSw)
                obtain ⟨z0, z1, z2, z3, z4, z5, z6, z7⟩ := PatBox.all hSw.1
                clear hSw
                go_simp
                all_goals (with_reducible rfl)
              try (conv => arg 8; simp only [Act.put, List.setIfInBounds_toArray, List.set_cons_zero, List.set_cons_succ])
              clear hHeld
              refine wpAnyH_ready (rs := [11]) (by kernel_rfl) (by simp) ?_
              refine AllReadyH.cons (o := { dst := none, op := Op.store 26 (Operand.tmp 7) (Operand.tmp 70), type := 0, pos := "law.go:70", after := #[{ on := 10, ground := Ground.data }, { on := 9, ground := Ground.data }, { on := 8, ground := Ground.chain }, { on := 0, ground := Ground.phase }, { on := 1, ground := Ground.phase }, { on := 2, ground := Ground.phase }, { on := 3, ground := Ground.phase }, { on := 4, ground := Ground.phase }, { on := 5, ground := Ground.phase }, { on := 6, ground := Ground.phase }, { on := 7, ground := Ground.phase }, { on := 8, ground := Ground.phase }, { on := 9, ground := Ground.phase }, { on := 10, ground := Ground.phase }], guard := none }) rfl (fun K hK => ?_) AllReadyH.nil
              refine step_storeP _ _ rfl rfl rfl gn q (some ⟨gr, 0, none⟩) (n + 1) cr rfl rfl hG ?_
              intro w5 e5
              have hk5 : Below W4.heap.size W4 w5 := by rw [e5.out]; exact putP_below hk hgn
              refine hK.out _ _ (hKP.out _ hk5) (fun hHeld => ?_)
              clear hK K
              try (conv => arg 8; simp only [Act.put, List.setIfInBounds_toArray, List.set_cons_zero, List.set_cons_succ])
              refine wpAnyH_done (by kernel_rfl) ?_ _
              try simp only [Act.put, List.getElem_toArray, List.getElem_cons_succ, List.getElem_cons_zero, List.setIfInBounds_toArray, List.set_cons_zero, List.set_cons_succ]
              go_wp2_with fail
              go_meet
              case rel => exact newP_end hG hO3 (by rw [List.length_append, ← HN.out]; rfl) hk hgn e5.out
            refine AllReadyH.cons (o := { dst := some 7, op := Op.alloc 26, type := 0, pos := "law.go:70", after := #[], guard := none }) rfl (fun K hK => ?_) AllReadyH.nil
            refine step_new8 7 rfl rfl rfl ?_
            intro gn y2 hG' eg hb
            have hgn : W4.heap.size ≤ gn := by rw [eg]; exact hk.size
            clear eg
            replace hO2 := own_below hO2 hb
            replace hk := kf_step hb hk
            clear hb
            have hG := hG'
            clear hG'
            refine hK.out _ _ (hKP.out _ hk) (fun hHeld => ?_)
            clear hK K
            try (conv => arg 8; simp only [Act.put, List.setIfInBounds_toArray, List.set_cons_zero, List.set_cons_succ])
            clear hHeld
            refine wpAnyH_ready (rs := [7]) (by kernel_rfl) (by simp) ?_
            refine AllReadyH.cons (o := { dst := some 68, op := Op.buildSlice 24 1 #[(0, Operand.tmp 67)], type := 24, pos := "law.go:70", after := #[{ on := 6, ground := Ground.data }], guard := none }) rfl (fun K hK => ?_) AllReadyH.nil
            refine step_bs1 68 _ d rfl rfl rfl rfl ?_
            intro gt y3 hT' et hb
            have hne2 := own_lt hO2 (g := gt) (by omega)
            clear et
            replace hO2 := own_below hO2 hb
            replace hG := Fr8.below hG hb
            replace hk := kf_step hb hk
            clear hb
            have hT := hT'
            clear hT'
            refine hK.out _ _ (hKP.out _ hk) (fun hHeld => ?_)
            clear hK K
            try (conv => arg 8; simp only [Act.put, List.setIfInBounds_toArray, List.set_cons_zero, List.set_cons_succ])
            clear hHeld
            refine wpAnyH_ready (rs := [8]) (by kernel_rfl) (by simp) ?_
            refine AllReadyH.cons (o := { dst := some 69, op := Op.call { callee := Callee.builtin Builtin.append, args := #[Operand.tmp 66, Operand.tmp 68], argTypes := #[24, 24] }, type := 24, pos := "law.go:70", after := #[{ on := 5, ground := Ground.data }, { on := 7, ground := Ground.data }, { on := 5, ground := Ground.chain }], guard := none }) rfl (fun K hK => ?_) AllReadyH.nil
            refine step_app 69 _ _ rfl rfl rfl W4.heap.size v2 n F rfl hO2 (some ⟨gt, 0, none⟩) 1 1 [d] rfl rfl (oneD_in hT) (fun h => by cases h) (by omega) hk.size ?_
            intro v3 y4 hO3 hgr hat
            replace hG := Fr8.grown hG hgr (Fr8.far hG hO2)
            replace hk := kf_grown hgr hk hO2
            clear hgr hat hO2 hT hne2
            obtain ⟨gr, cr, rfl, -, -⟩ := World.ownsRow.form hO3 (by omega)
            refine hK.out _ _ (hKP.out _ hk) (fun hHeld => ?_)
            clear hK K
            try (conv => arg 8; simp only [Act.put, List.setIfInBounds_toArray, List.set_cons_zero, List.set_cons_succ])
            refine wpAnyH_take (i := 9) (oi := { dst := some 70, op := Op.build 26 #[(0, Operand.tmp 62), (1, Operand.tmp 69)], type := 26, pos := "law.go:70", after := #[{ on := 1, ground := Ground.data }, { on := 8, ground := Ground.data }], guard := none }) (v := ?_) rfl (by kernel_rfl) (by kernel_rfl) (by kernel_rfl) (fun _ _ _ h => h) (Or.inl ⟨by kernel_rfl, ?_⟩) (by assumption) ?_
            rotate_left 1
            · intro w' hSw
              (try dsimp only at hSw)
              obtain ⟨z0, z1, z2, z3, z4, z5, z6, z7⟩ := PatBox.all hSw.1
              clear hSw
              go_simp
              all_goals (with_reducible rfl)
            try (conv => arg 8; simp only [Act.put, List.setIfInBounds_toArray, List.set_cons_zero, List.set_cons_succ])
            clear hHeld
            refine wpAnyH_ready (rs := [11]) (by kernel_rfl) (by simp) ?_
            refine AllReadyH.cons (o := { dst := none, op := Op.store 26 (Operand.tmp 7) (Operand.tmp 70), type := 0, pos := "law.go:70", after := #[{ on := 10, ground := Ground.data }, { on := 9, ground := Ground.data }, { on := 8, ground := Ground.chain }, { on := 0, ground := Ground.phase }, { on := 1, ground := Ground.phase }, { on := 2, ground := Ground.phase }, { on := 3, ground := Ground.phase }, { on := 4, ground := Ground.phase }, { on := 5, ground := Ground.phase }, { on := 6, ground := Ground.phase }, { on := 7, ground := Ground.phase }, { on := 8, ground := Ground.phase }, { on := 9, ground := Ground.phase }, { on := 10, ground := Ground.phase }], guard := none }) rfl (fun K hK => ?_) AllReadyH.nil
            refine step_storeP _ _ rfl rfl rfl gn q (some ⟨gr, 0, none⟩) (n + 1) cr rfl rfl hG ?_
            intro w5 e5
            have hk5 : Below W4.heap.size W4 w5 := by rw [e5.out]; exact putP_below hk hgn
            refine hK.out _ _ (hKP.out _ hk5) (fun hHeld => ?_)
            clear hK K
            try (conv => arg 8; simp only [Act.put, List.setIfInBounds_toArray, List.set_cons_zero, List.set_cons_succ])
            refine wpAnyH_done (by kernel_rfl) ?_ _
            try simp only [Act.put, List.getElem_toArray, List.getElem_cons_succ, List.getElem_cons_zero, List.setIfInBounds_toArray, List.set_cons_zero, List.set_cons_succ]
            go_wp2_with fail
            go_meet
            case rel => exact newP_end hG hO3 (by rw [List.length_append, ← HN.out]; rfl) hk hgn e5.out
          refine AllReadyH.cons (o := { dst := some 68, op := Op.buildSlice 24 1 #[(0, Operand.tmp 67)], type := 24, pos := "law.go:70", after := #[{ on := 6, ground := Ground.data }], guard := none }) rfl (fun K hK => ?_) ?_
          · refine step_bs1 68 _ d rfl rfl rfl rfl ?_
            intro gt y1 hT' et hb
            have hne := own_lt hO (g := gt) (by omega)
            clear et
            replace hO := own_below hO hb
            replace hk := kf_step hb hk
            clear hb
            have hT := hT'
            clear hT'
            refine hK.out _ _ (hKP.out _ hk) (fun hHeld => ?_)
            clear hK K
            try (conv => arg 8; simp only [Act.put, List.setIfInBounds_toArray, List.set_cons_zero, List.set_cons_succ])
            clear hHeld
            refine wpAnyH_ready (rs := [5,10]) (by kernel_rfl) (by simp) ?_
            refine AllReadyH.cons (o := { dst := some 66, op := Op.call { callee := Callee.builtin Builtin.append, args := #[Operand.tmp 63, Operand.tmp 65], argTypes := #[24, 24] }, type := 24, pos := "law.go:70", after := #[{ on := 2, ground := Ground.data }, { on := 4, ground := Ground.data }], guard := none }) rfl (fun K hK => ?_) ?_
            · refine step_app 66 _ _ rfl rfl rfl W4.heap.size v 0 [] rfl hO p n c F rfl HN.out (DaysIn.below d0 hk (Nat.le_refl _)) H0P.out (by omega) hk.size ?_
              intro v2 y2 hO2 hgr hat
              have hne2 := ne_app hne (lt_of_at hT) hat
              replace hT := OneD.grown hT hgr hne
              clear hne
              replace hk := kf_grown hgr hk hO
              clear hgr hat hO
              rw [List.nil_append, Nat.zero_add] at hO2
              refine hK.out _ _ (hKP.out _ hk) (fun hHeld => ?_)
              clear hK K
              try (conv => arg 8; simp only [Act.put, List.setIfInBounds_toArray, List.set_cons_zero, List.set_cons_succ])
              clear hHeld
              refine wpAnyH_ready (rs := [8,10]) (by kernel_rfl) (by simp) ?_
              refine AllReadyH.cons (o := { dst := some 69, op := Op.call { callee := Callee.builtin Builtin.append, args := #[Operand.tmp 66, Operand.tmp 68], argTypes := #[24, 24] }, type := 24, pos := "law.go:70", after := #[{ on := 5, ground := Ground.data }, { on := 7, ground := Ground.data }, { on := 5, ground := Ground.chain }], guard := none }) rfl (fun K hK => ?_) ?_
              · refine step_app 69 _ _ rfl rfl rfl W4.heap.size v2 n F rfl hO2 (some ⟨gt, 0, none⟩) 1 1 [d] rfl rfl (oneD_in hT) (fun h => by cases h) (by omega) hk.size ?_
                intro v3 y3 hO3 hgr hat
                replace hk := kf_grown hgr hk hO2
                clear hgr hat hO2 hT hne2
                obtain ⟨gr, cr, rfl, -, -⟩ := World.ownsRow.form hO3 (by omega)
                refine hK.out _ _ (hKP.out _ hk) (fun hHeld => ?_)
                clear hK K
                try (conv => arg 8; simp only [Act.put, List.setIfInBounds_toArray, List.set_cons_zero, List.set_cons_succ])
                refine wpAnyH_take (i := 9) (oi := { dst := some 70, op := Op.build 26 #[(0, Operand.tmp 62), (1, Operand.tmp 69)], type := 26, pos := "law.go:70", after := #[{ on := 1, ground := Ground.data }, { on := 8, ground := Ground.data }], guard := none }) (v := ?_) rfl (by kernel_rfl) (by kernel_rfl) (by kernel_rfl) (fun _ _ _ h => h) (Or.inl ⟨by kernel_rfl, ?_⟩) (by assumption) ?_
                rotate_left 1
                · intro w' hSw
                  (try dsimp only at hSw)
                  obtain ⟨z0, z1, z2, z3, z4, z5, z6, z7⟩ := PatBox.all hSw.1
                  clear hSw
                  go_simp
                  all_goals (with_reducible rfl)
                try (conv => arg 8; simp only [Act.put, List.setIfInBounds_toArray, List.set_cons_zero, List.set_cons_succ])
                clear hHeld
                refine wpAnyH_ready (rs := [10]) (by kernel_rfl) (by simp) ?_
                refine AllReadyH.cons (o := { dst := some 7, op := Op.alloc 26, type := 0, pos := "law.go:70", after := #[], guard := none }) rfl (fun K hK => ?_) AllReadyH.nil
                refine step_new8 7 rfl rfl rfl ?_
                intro gn y4 hG' eg hb
                have hgn : W4.heap.size ≤ gn := by rw [eg]; exact hk.size
                clear eg
                replace hO3 := own_below hO3 hb
                skip
                replace hk := kf_step hb hk
                clear hb
                have hG := hG'
                clear hG'
                refine hK.out _ _ (hKP.out _ hk) (fun hHeld => ?_)
                clear hK K
                try (conv => arg 8; simp only [Act.put, List.setIfInBounds_toArray, List.set_cons_zero, List.set_cons_succ])
                clear hHeld
                refine wpAnyH_ready (rs := [11]) (by kernel_rfl) (by simp) ?_
                refine AllReadyH.cons (o := { dst := none, op := Op.store 26 (Operand.tmp 7) (Operand.tmp 70), type := 0, pos := "law.go:70", after := #[{ on := 10, ground := Ground.data }, { on := 9, ground := Ground.data }, { on := 8, ground := Ground.chain }, { on := 0, ground := Ground.phase }, { on := 1, ground := Ground.phase }, { on := 2, ground := Ground.phase }, { on := 3, ground := Ground.phase }, { on := 4, ground := Ground.phase }, { on := 5, ground := Ground.phase }, { on := 6, ground := Ground.phase }, { on := 7, ground := Ground.phase }, { on := 8, ground := Ground.phase }, { on := 9, ground := Ground.phase }, { on := 10, ground := Ground.phase }], guard := none }) rfl (fun K hK => ?_) AllReadyH.nil
                refine step_storeP _ _ rfl rfl rfl gn q (some ⟨gr, 0, none⟩) (n + 1) cr rfl rfl hG ?_
                intro w5 e5
                have hk5 : Below W4.heap.size W4 w5 := by rw [e5.out]; exact putP_below hk hgn
                refine hK.out _ _ (hKP.out _ hk5) (fun hHeld => ?_)
                clear hK K
                try (conv => arg 8; simp only [Act.put, List.setIfInBounds_toArray, List.set_cons_zero, List.set_cons_succ])
                refine wpAnyH_done (by kernel_rfl) ?_ _
                try simp only [Act.put, List.getElem_toArray, List.getElem_cons_succ, List.getElem_cons_zero, List.setIfInBounds_toArray, List.set_cons_zero, List.set_cons_succ]
                go_wp2_with fail
                go_meet
                case rel => exact newP_end hG hO3 (by rw [List.length_append, ← HN.out]; rfl) hk hgn e5.out
              refine AllReadyH.cons (o := { dst := some 7, op := Op.alloc 26, type := 0, pos := "law.go:70", after := #[], guard := none }) rfl (fun K hK => ?_) AllReadyH.nil
              refine step_new8 7 rfl rfl rfl ?_
              intro gn y3 hG' eg hb
              have hgn : W4.heap.size ≤ gn := by rw [eg]; exact hk.size
              clear eg
              replace hO2 := own_below hO2 hb
              replace hT := OneD.below hT hb
              replace hk := kf_step hb hk
              clear hb
              have hG := hG'
              clear hG'
              refine hK.out _ _ (hKP.out _ hk) (fun hHeld => ?_)
              clear hK K
              try (conv => arg 8; simp only [Act.put, List.setIfInBounds_toArray, List.set_cons_zero, List.set_cons_succ])
              clear hHeld
              refine wpAnyH_ready (rs := [8]) (by kernel_rfl) (by simp) ?_
              refine AllReadyH.cons (o := { dst := some 69, op := Op.call { callee := Callee.builtin Builtin.append, args := #[Operand.tmp 66, Operand.tmp 68], argTypes := #[24, 24] }, type := 24, pos := "law.go:70", after := #[{ on := 5, ground := Ground.data }, { on := 7, ground := Ground.data }, { on := 5, ground := Ground.chain }], guard := none }) rfl (fun K hK => ?_) AllReadyH.nil
              refine step_app 69 _ _ rfl rfl rfl W4.heap.size v2 n F rfl hO2 (some ⟨gt, 0, none⟩) 1 1 [d] rfl rfl (oneD_in hT) (fun h => by cases h) (by omega) hk.size ?_
              intro v3 y4 hO3 hgr hat
              replace hG := Fr8.grown hG hgr (Fr8.far hG hO2)
              replace hk := kf_grown hgr hk hO2
              clear hgr hat hO2 hT hne2
              obtain ⟨gr, cr, rfl, -, -⟩ := World.ownsRow.form hO3 (by omega)
              refine hK.out _ _ (hKP.out _ hk) (fun hHeld => ?_)
              clear hK K
              try (conv => arg 8; simp only [Act.put, List.setIfInBounds_toArray, List.set_cons_zero, List.set_cons_succ])
              refine wpAnyH_take (i := 9) (oi := { dst := some 70, op := Op.build 26 #[(0, Operand.tmp 62), (1, Operand.tmp 69)], type := 26, pos := "law.go:70", after := #[{ on := 1, ground := Ground.data }, { on := 8, ground := Ground.data }], guard := none }) (v := ?_) rfl (by kernel_rfl) (by kernel_rfl) (by kernel_rfl) (fun _ _ _ h => h) (Or.inl ⟨by kernel_rfl, ?_⟩) (by assumption) ?_
              rotate_left 1
              · intro w' hSw
                (try dsimp only at hSw)
                obtain ⟨z0, z1, z2, z3, z4, z5, z6, z7⟩ := PatBox.all hSw.1
                clear hSw
                go_simp
                all_goals (with_reducible rfl)
              try (conv => arg 8; simp only [Act.put, List.setIfInBounds_toArray, List.set_cons_zero, List.set_cons_succ])
              clear hHeld
              refine wpAnyH_ready (rs := [11]) (by kernel_rfl) (by simp) ?_
              refine AllReadyH.cons (o := { dst := none, op := Op.store 26 (Operand.tmp 7) (Operand.tmp 70), type := 0, pos := "law.go:70", after := #[{ on := 10, ground := Ground.data }, { on := 9, ground := Ground.data }, { on := 8, ground := Ground.chain }, { on := 0, ground := Ground.phase }, { on := 1, ground := Ground.phase }, { on := 2, ground := Ground.phase }, { on := 3, ground := Ground.phase }, { on := 4, ground := Ground.phase }, { on := 5, ground := Ground.phase }, { on := 6, ground := Ground.phase }, { on := 7, ground := Ground.phase }, { on := 8, ground := Ground.phase }, { on := 9, ground := Ground.phase }, { on := 10, ground := Ground.phase }], guard := none }) rfl (fun K hK => ?_) AllReadyH.nil
              refine step_storeP _ _ rfl rfl rfl gn q (some ⟨gr, 0, none⟩) (n + 1) cr rfl rfl hG ?_
              intro w5 e5
              have hk5 : Below W4.heap.size W4 w5 := by rw [e5.out]; exact putP_below hk hgn
              refine hK.out _ _ (hKP.out _ hk5) (fun hHeld => ?_)
              clear hK K
              try (conv => arg 8; simp only [Act.put, List.setIfInBounds_toArray, List.set_cons_zero, List.set_cons_succ])
              refine wpAnyH_done (by kernel_rfl) ?_ _
              try simp only [Act.put, List.getElem_toArray, List.getElem_cons_succ, List.getElem_cons_zero, List.setIfInBounds_toArray, List.set_cons_zero, List.set_cons_succ]
              go_wp2_with fail
              go_meet
              case rel => exact newP_end hG hO3 (by rw [List.length_append, ← HN.out]; rfl) hk hgn e5.out
            refine AllReadyH.cons (o := { dst := some 7, op := Op.alloc 26, type := 0, pos := "law.go:70", after := #[], guard := none }) rfl (fun K hK => ?_) AllReadyH.nil
            refine step_new8 7 rfl rfl rfl ?_
            intro gn y2 hG' eg hb
            have hgn : W4.heap.size ≤ gn := by rw [eg]; exact hk.size
            clear eg
            replace hO := own_below hO hb
            replace hT := OneD.below hT hb
            replace hk := kf_step hb hk
            clear hb
            have hG := hG'
            clear hG'
            refine hK.out _ _ (hKP.out _ hk) (fun hHeld => ?_)
            clear hK K
            try (conv => arg 8; simp only [Act.put, List.setIfInBounds_toArray, List.set_cons_zero, List.set_cons_succ])
            clear hHeld
            refine wpAnyH_ready (rs := [5]) (by kernel_rfl) (by simp) ?_
            refine AllReadyH.cons (o := { dst := some 66, op := Op.call { callee := Callee.builtin Builtin.append, args := #[Operand.tmp 63, Operand.tmp 65], argTypes := #[24, 24] }, type := 24, pos := "law.go:70", after := #[{ on := 2, ground := Ground.data }, { on := 4, ground := Ground.data }], guard := none }) rfl (fun K hK => ?_) AllReadyH.nil
            refine step_app 66 _ _ rfl rfl rfl W4.heap.size v 0 [] rfl hO p n c F rfl HN.out (DaysIn.below d0 hk (Nat.le_refl _)) H0P.out (by omega) hk.size ?_
            intro v2 y3 hO2 hgr hat
            replace hG := Fr8.grown hG hgr (Fr8.far hG hO)
            have hne2 := ne_app hne (lt_of_at hT) hat
            replace hT := OneD.grown hT hgr hne
            clear hne
            replace hk := kf_grown hgr hk hO
            clear hgr hat hO
            rw [List.nil_append, Nat.zero_add] at hO2
            refine hK.out _ _ (hKP.out _ hk) (fun hHeld => ?_)
            clear hK K
            try (conv => arg 8; simp only [Act.put, List.setIfInBounds_toArray, List.set_cons_zero, List.set_cons_succ])
            clear hHeld
            refine wpAnyH_ready (rs := [8]) (by kernel_rfl) (by simp) ?_
            refine AllReadyH.cons (o := { dst := some 69, op := Op.call { callee := Callee.builtin Builtin.append, args := #[Operand.tmp 66, Operand.tmp 68], argTypes := #[24, 24] }, type := 24, pos := "law.go:70", after := #[{ on := 5, ground := Ground.data }, { on := 7, ground := Ground.data }, { on := 5, ground := Ground.chain }], guard := none }) rfl (fun K hK => ?_) AllReadyH.nil
            refine step_app 69 _ _ rfl rfl rfl W4.heap.size v2 n F rfl hO2 (some ⟨gt, 0, none⟩) 1 1 [d] rfl rfl (oneD_in hT) (fun h => by cases h) (by omega) hk.size ?_
            intro v3 y4 hO3 hgr hat
            replace hG := Fr8.grown hG hgr (Fr8.far hG hO2)
            replace hk := kf_grown hgr hk hO2
            clear hgr hat hO2 hT hne2
            obtain ⟨gr, cr, rfl, -, -⟩ := World.ownsRow.form hO3 (by omega)
            refine hK.out _ _ (hKP.out _ hk) (fun hHeld => ?_)
            clear hK K
            try (conv => arg 8; simp only [Act.put, List.setIfInBounds_toArray, List.set_cons_zero, List.set_cons_succ])
            refine wpAnyH_take (i := 9) (oi := { dst := some 70, op := Op.build 26 #[(0, Operand.tmp 62), (1, Operand.tmp 69)], type := 26, pos := "law.go:70", after := #[{ on := 1, ground := Ground.data }, { on := 8, ground := Ground.data }], guard := none }) (v := ?_) rfl (by kernel_rfl) (by kernel_rfl) (by kernel_rfl) (fun _ _ _ h => h) (Or.inl ⟨by kernel_rfl, ?_⟩) (by assumption) ?_
            rotate_left 1
            · intro w' hSw
              (try dsimp only at hSw)
              obtain ⟨z0, z1, z2, z3, z4, z5, z6, z7⟩ := PatBox.all hSw.1
              clear hSw
              go_simp
              all_goals (with_reducible rfl)
            try (conv => arg 8; simp only [Act.put, List.setIfInBounds_toArray, List.set_cons_zero, List.set_cons_succ])
            clear hHeld
            refine wpAnyH_ready (rs := [11]) (by kernel_rfl) (by simp) ?_
            refine AllReadyH.cons (o := { dst := none, op := Op.store 26 (Operand.tmp 7) (Operand.tmp 70), type := 0, pos := "law.go:70", after := #[{ on := 10, ground := Ground.data }, { on := 9, ground := Ground.data }, { on := 8, ground := Ground.chain }, { on := 0, ground := Ground.phase }, { on := 1, ground := Ground.phase }, { on := 2, ground := Ground.phase }, { on := 3, ground := Ground.phase }, { on := 4, ground := Ground.phase }, { on := 5, ground := Ground.phase }, { on := 6, ground := Ground.phase }, { on := 7, ground := Ground.phase }, { on := 8, ground := Ground.phase }, { on := 9, ground := Ground.phase }, { on := 10, ground := Ground.phase }], guard := none }) rfl (fun K hK => ?_) AllReadyH.nil
            refine step_storeP _ _ rfl rfl rfl gn q (some ⟨gr, 0, none⟩) (n + 1) cr rfl rfl hG ?_
            intro w5 e5
            have hk5 : Below W4.heap.size W4 w5 := by rw [e5.out]; exact putP_below hk hgn
            refine hK.out _ _ (hKP.out _ hk5) (fun hHeld => ?_)
            clear hK K
            try (conv => arg 8; simp only [Act.put, List.setIfInBounds_toArray, List.set_cons_zero, List.set_cons_succ])
            refine wpAnyH_done (by kernel_rfl) ?_ _
            try simp only [Act.put, List.getElem_toArray, List.getElem_cons_succ, List.getElem_cons_zero, List.setIfInBounds_toArray, List.set_cons_zero, List.set_cons_succ]
            go_wp2_with fail
            go_meet
            case rel => exact newP_end hG hO3 (by rw [List.length_append, ← HN.out]; rfl) hk hgn e5.out
          refine AllReadyH.cons (o := { dst := some 7, op := Op.alloc 26, type := 0, pos := "law.go:70", after := #[], guard := none }) rfl (fun K hK => ?_) AllReadyH.nil
          refine step_new8 7 rfl rfl rfl ?_
          intro gn y1 hG' eg hb
          have hgn : W4.heap.size ≤ gn := by rw [eg]; exact hk.size
          clear eg
          replace hO := own_below hO hb
          replace hk := kf_step hb hk
          clear hb
          have hG := hG'
          clear hG'
          refine hK.out _ _ (hKP.out _ hk) (fun hHeld => ?_)
          clear hK K
          try (conv => arg 8; simp only [Act.put, List.setIfInBounds_toArray, List.set_cons_zero, List.set_cons_succ])
          clear hHeld
          refine wpAnyH_ready (rs := [5,7]) (by kernel_rfl) (by simp) ?_
          refine AllReadyH.cons (o := { dst := some 66, op := Op.call { callee := Callee.builtin Builtin.append, args := #[Operand.tmp 63, Operand.tmp 65], argTypes := #[24, 24] }, type := 24, pos := "law.go:70", after := #[{ on := 2, ground := Ground.data }, { on := 4, ground := Ground.data }], guard := none }) rfl (fun K hK => ?_) ?_
          · refine step_app 66 _ _ rfl rfl rfl W4.heap.size v 0 [] rfl hO p n c F rfl HN.out (DaysIn.below d0 hk (Nat.le_refl _)) H0P.out (by omega) hk.size ?_
            intro v2 y2 hO2 hgr hat
            replace hG := Fr8.grown hG hgr (Fr8.far hG hO)
            replace hk := kf_grown hgr hk hO
            clear hgr hat hO
            rw [List.nil_append, Nat.zero_add] at hO2
            refine hK.out _ _ (hKP.out _ hk) (fun hHeld => ?_)
            clear hK K
            try (conv => arg 8; simp only [Act.put, List.setIfInBounds_toArray, List.set_cons_zero, List.set_cons_succ])
            clear hHeld
            refine wpAnyH_ready (rs := [7]) (by kernel_rfl) (by simp) ?_
            refine AllReadyH.cons (o := { dst := some 68, op := Op.buildSlice 24 1 #[(0, Operand.tmp 67)], type := 24, pos := "law.go:70", after := #[{ on := 6, ground := Ground.data }], guard := none }) rfl (fun K hK => ?_) AllReadyH.nil
            refine step_bs1 68 _ d rfl rfl rfl rfl ?_
            intro gt y3 hT' et hb
            have hne2 := own_lt hO2 (g := gt) (by omega)
            clear et
            replace hO2 := own_below hO2 hb
            replace hG := Fr8.below hG hb
            replace hk := kf_step hb hk
            clear hb
            have hT := hT'
            clear hT'
            refine hK.out _ _ (hKP.out _ hk) (fun hHeld => ?_)
            clear hK K
            try (conv => arg 8; simp only [Act.put, List.setIfInBounds_toArray, List.set_cons_zero, List.set_cons_succ])
            clear hHeld
            refine wpAnyH_ready (rs := [8]) (by kernel_rfl) (by simp) ?_
            refine AllReadyH.cons (o := { dst := some 69, op := Op.call { callee := Callee.builtin Builtin.append, args := #[Operand.tmp 66, Operand.tmp 68], argTypes := #[24, 24] }, type := 24, pos := "law.go:70", after := #[{ on := 5, ground := Ground.data }, { on := 7, ground := Ground.data }, { on := 5, ground := Ground.chain }], guard := none }) rfl (fun K hK => ?_) AllReadyH.nil
            refine step_app 69 _ _ rfl rfl rfl W4.heap.size v2 n F rfl hO2 (some ⟨gt, 0, none⟩) 1 1 [d] rfl rfl (oneD_in hT) (fun h => by cases h) (by omega) hk.size ?_
            intro v3 y4 hO3 hgr hat
            replace hG := Fr8.grown hG hgr (Fr8.far hG hO2)
            replace hk := kf_grown hgr hk hO2
            clear hgr hat hO2 hT hne2
            obtain ⟨gr, cr, rfl, -, -⟩ := World.ownsRow.form hO3 (by omega)
            refine hK.out _ _ (hKP.out _ hk) (fun hHeld => ?_)
            clear hK K
            try (conv => arg 8; simp only [Act.put, List.setIfInBounds_toArray, List.set_cons_zero, List.set_cons_succ])
            refine wpAnyH_take (i := 9) (oi := { dst := some 70, op := Op.build 26 #[(0, Operand.tmp 62), (1, Operand.tmp 69)], type := 26, pos := "law.go:70", after := #[{ on := 1, ground := Ground.data }, { on := 8, ground := Ground.data }], guard := none }) (v := ?_) rfl (by kernel_rfl) (by kernel_rfl) (by kernel_rfl) (fun _ _ _ h => h) (Or.inl ⟨by kernel_rfl, ?_⟩) (by assumption) ?_
            rotate_left 1
            · intro w' hSw
              (try dsimp only at hSw)
              obtain ⟨z0, z1, z2, z3, z4, z5, z6, z7⟩ := PatBox.all hSw.1
              clear hSw
              go_simp
              all_goals (with_reducible rfl)
            try (conv => arg 8; simp only [Act.put, List.setIfInBounds_toArray, List.set_cons_zero, List.set_cons_succ])
            clear hHeld
            refine wpAnyH_ready (rs := [11]) (by kernel_rfl) (by simp) ?_
            refine AllReadyH.cons (o := { dst := none, op := Op.store 26 (Operand.tmp 7) (Operand.tmp 70), type := 0, pos := "law.go:70", after := #[{ on := 10, ground := Ground.data }, { on := 9, ground := Ground.data }, { on := 8, ground := Ground.chain }, { on := 0, ground := Ground.phase }, { on := 1, ground := Ground.phase }, { on := 2, ground := Ground.phase }, { on := 3, ground := Ground.phase }, { on := 4, ground := Ground.phase }, { on := 5, ground := Ground.phase }, { on := 6, ground := Ground.phase }, { on := 7, ground := Ground.phase }, { on := 8, ground := Ground.phase }, { on := 9, ground := Ground.phase }, { on := 10, ground := Ground.phase }], guard := none }) rfl (fun K hK => ?_) AllReadyH.nil
            refine step_storeP _ _ rfl rfl rfl gn q (some ⟨gr, 0, none⟩) (n + 1) cr rfl rfl hG ?_
            intro w5 e5
            have hk5 : Below W4.heap.size W4 w5 := by rw [e5.out]; exact putP_below hk hgn
            refine hK.out _ _ (hKP.out _ hk5) (fun hHeld => ?_)
            clear hK K
            try (conv => arg 8; simp only [Act.put, List.setIfInBounds_toArray, List.set_cons_zero, List.set_cons_succ])
            refine wpAnyH_done (by kernel_rfl) ?_ _
            try simp only [Act.put, List.getElem_toArray, List.getElem_cons_succ, List.getElem_cons_zero, List.setIfInBounds_toArray, List.set_cons_zero, List.set_cons_succ]
            go_wp2_with fail
            go_meet
            case rel => exact newP_end hG hO3 (by rw [List.length_append, ← HN.out]; rfl) hk hgn e5.out
          refine AllReadyH.cons (o := { dst := some 68, op := Op.buildSlice 24 1 #[(0, Operand.tmp 67)], type := 24, pos := "law.go:70", after := #[{ on := 6, ground := Ground.data }], guard := none }) rfl (fun K hK => ?_) AllReadyH.nil
          refine step_bs1 68 _ d rfl rfl rfl rfl ?_
          intro gt y2 hT' et hb
          have hne := own_lt hO (g := gt) (by omega)
          clear et
          replace hO := own_below hO hb
          replace hG := Fr8.below hG hb
          replace hk := kf_step hb hk
          clear hb
          have hT := hT'
          clear hT'
          refine hK.out _ _ (hKP.out _ hk) (fun hHeld => ?_)
          clear hK K
          try (conv => arg 8; simp only [Act.put, List.setIfInBounds_toArray, List.set_cons_zero, List.set_cons_succ])
          clear hHeld
          refine wpAnyH_ready (rs := [5]) (by kernel_rfl) (by simp) ?_
          refine AllReadyH.cons (o := { dst := some 66, op := Op.call { callee := Callee.builtin Builtin.append, args := #[Operand.tmp 63, Operand.tmp 65], argTypes := #[24, 24] }, type := 24, pos := "law.go:70", after := #[{ on := 2, ground := Ground.data }, { on := 4, ground := Ground.data }], guard := none }) rfl (fun K hK => ?_) AllReadyH.nil
          refine step_app 66 _ _ rfl rfl rfl W4.heap.size v 0 [] rfl hO p n c F rfl HN.out (DaysIn.below d0 hk (Nat.le_refl _)) H0P.out (by omega) hk.size ?_
          intro v2 y3 hO2 hgr hat
          replace hG := Fr8.grown hG hgr (Fr8.far hG hO)
          have hne2 := ne_app hne (lt_of_at hT) hat
          replace hT := OneD.grown hT hgr hne
          clear hne
          replace hk := kf_grown hgr hk hO
          clear hgr hat hO
          rw [List.nil_append, Nat.zero_add] at hO2
          refine hK.out _ _ (hKP.out _ hk) (fun hHeld => ?_)
          clear hK K
          try (conv => arg 8; simp only [Act.put, List.setIfInBounds_toArray, List.set_cons_zero, List.set_cons_succ])
          clear hHeld
          refine wpAnyH_ready (rs := [8]) (by kernel_rfl) (by simp) ?_
          refine AllReadyH.cons (o := { dst := some 69, op := Op.call { callee := Callee.builtin Builtin.append, args := #[Operand.tmp 66, Operand.tmp 68], argTypes := #[24, 24] }, type := 24, pos := "law.go:70", after := #[{ on := 5, ground := Ground.data }, { on := 7, ground := Ground.data }, { on := 5, ground := Ground.chain }], guard := none }) rfl (fun K hK => ?_) AllReadyH.nil
          refine step_app 69 _ _ rfl rfl rfl W4.heap.size v2 n F rfl hO2 (some ⟨gt, 0, none⟩) 1 1 [d] rfl rfl (oneD_in hT) (fun h => by cases h) (by omega) hk.size ?_
          intro v3 y4 hO3 hgr hat
          replace hG := Fr8.grown hG hgr (Fr8.far hG hO2)
          replace hk := kf_grown hgr hk hO2
          clear hgr hat hO2 hT hne2
          obtain ⟨gr, cr, rfl, -, -⟩ := World.ownsRow.form hO3 (by omega)
          refine hK.out _ _ (hKP.out _ hk) (fun hHeld => ?_)
          clear hK K
          try (conv => arg 8; simp only [Act.put, List.setIfInBounds_toArray, List.set_cons_zero, List.set_cons_succ])
          refine wpAnyH_take (i := 9) (oi := { dst := some 70, op := Op.build 26 #[(0, Operand.tmp 62), (1, Operand.tmp 69)], type := 26, pos := "law.go:70", after := #[{ on := 1, ground := Ground.data }, { on := 8, ground := Ground.data }], guard := none }) (v := ?_) rfl (by kernel_rfl) (by kernel_rfl) (by kernel_rfl) (fun _ _ _ h => h) (Or.inl ⟨by kernel_rfl, ?_⟩) (by assumption) ?_
          rotate_left 1
          · intro w' hSw
            (try dsimp only at hSw)
            obtain ⟨z0, z1, z2, z3, z4, z5, z6, z7⟩ := PatBox.all hSw.1
            clear hSw
            go_simp
            all_goals (with_reducible rfl)
          try (conv => arg 8; simp only [Act.put, List.setIfInBounds_toArray, List.set_cons_zero, List.set_cons_succ])
          clear hHeld
          refine wpAnyH_ready (rs := [11]) (by kernel_rfl) (by simp) ?_
          refine AllReadyH.cons (o := { dst := none, op := Op.store 26 (Operand.tmp 7) (Operand.tmp 70), type := 0, pos := "law.go:70", after := #[{ on := 10, ground := Ground.data }, { on := 9, ground := Ground.data }, { on := 8, ground := Ground.chain }, { on := 0, ground := Ground.phase }, { on := 1, ground := Ground.phase }, { on := 2, ground := Ground.phase }, { on := 3, ground := Ground.phase }, { on := 4, ground := Ground.phase }, { on := 5, ground := Ground.phase }, { on := 6, ground := Ground.phase }, { on := 7, ground := Ground.phase }, { on := 8, ground := Ground.phase }, { on := 9, ground := Ground.phase }, { on := 10, ground := Ground.phase }], guard := none }) rfl (fun K hK => ?_) AllReadyH.nil
          refine step_storeP _ _ rfl rfl rfl gn q (some ⟨gr, 0, none⟩) (n + 1) cr rfl rfl hG ?_
          intro w5 e5
          have hk5 : Below W4.heap.size W4 w5 := by rw [e5.out]; exact putP_below hk hgn
          refine hK.out _ _ (hKP.out _ hk5) (fun hHeld => ?_)
          clear hK K
          try (conv => arg 8; simp only [Act.put, List.setIfInBounds_toArray, List.set_cons_zero, List.set_cons_succ])
          refine wpAnyH_done (by kernel_rfl) ?_ _
          try simp only [Act.put, List.getElem_toArray, List.getElem_cons_succ, List.getElem_cons_zero, List.setIfInBounds_toArray, List.set_cons_zero, List.set_cons_succ]
          go_wp2_with fail
          go_meet
          case rel => exact newP_end hG hO3 (by rw [List.length_append, ← HN.out]; rfl) hk hgn e5.out
        refine AllReadyH.cons (o := { dst := some 68, op := Op.buildSlice 24 1 #[(0, Operand.tmp 67)], type := 24, pos := "law.go:70", after := #[{ on := 6, ground := Ground.data }], guard := none }) rfl (fun K hK => ?_) ?_
        · refine step_bs1 68 _ d rfl rfl rfl rfl ?_
          intro gt y0 hT' et hb
          clear et
          replace hk := kf_step hb hk
          clear hb
          have hT := hT'
          clear hT'
          refine hK.out _ _ (hKP.out _ hk) (fun hHeld => ?_)
          clear hK K
          try (conv => arg 8; simp only [Act.put, List.setIfInBounds_toArray, List.set_cons_zero, List.set_cons_succ])
          clear hHeld
          refine wpAnyH_ready (rs := [2,10]) (by kernel_rfl) (by simp) ?_
          refine AllReadyH.cons (o := { dst := some 63, op := Op.buildSlice 24 0 #[], type := 24, pos := "law.go:70", after := #[], guard := none }) rfl (fun K hK => ?_) ?_
          · refine step_bs0 63 rfl rfl rfl W4.heap.size hk.size ?_
            intro v y1 hO hv hb
            have hne := ne_new (lt_of_at hT) hv
            clear hv
            replace hT := OneD.below hT hb
            replace hk := kf_step hb hk
            clear hb
            refine hK.out _ _ (hKP.out _ hk) (fun hHeld => ?_)
            clear hK K
            try (conv => arg 8; simp only [Act.put, List.setIfInBounds_toArray, List.set_cons_zero, List.set_cons_succ])
            clear hHeld
            refine wpAnyH_ready (rs := [5,10]) (by kernel_rfl) (by simp) ?_
            refine AllReadyH.cons (o := { dst := some 66, op := Op.call { callee := Callee.builtin Builtin.append, args := #[Operand.tmp 63, Operand.tmp 65], argTypes := #[24, 24] }, type := 24, pos := "law.go:70", after := #[{ on := 2, ground := Ground.data }, { on := 4, ground := Ground.data }], guard := none }) rfl (fun K hK => ?_) ?_
            · refine step_app 66 _ _ rfl rfl rfl W4.heap.size v 0 [] rfl hO p n c F rfl HN.out (DaysIn.below d0 hk (Nat.le_refl _)) H0P.out (by omega) hk.size ?_
              intro v2 y2 hO2 hgr hat
              have hne2 := ne_app hne (lt_of_at hT) hat
              replace hT := OneD.grown hT hgr hne
              clear hne
              replace hk := kf_grown hgr hk hO
              clear hgr hat hO
              rw [List.nil_append, Nat.zero_add] at hO2
              refine hK.out _ _ (hKP.out _ hk) (fun hHeld => ?_)
              clear hK K
              try (conv => arg 8; simp only [Act.put, List.setIfInBounds_toArray, List.set_cons_zero, List.set_cons_succ])
              clear hHeld
              refine wpAnyH_ready (rs := [8,10]) (by kernel_rfl) (by simp) ?_
              refine AllReadyH.cons (o := { dst := some 69, op := Op.call { callee := Callee.builtin Builtin.append, args := #[Operand.tmp 66, Operand.tmp 68], argTypes := #[24, 24] }, type := 24, pos := "law.go:70", after := #[{ on := 5, ground := Ground.data }, { on := 7, ground := Ground.data }, { on := 5, ground := Ground.chain }], guard := none }) rfl (fun K hK => ?_) ?_
              · refine step_app 69 _ _ rfl rfl rfl W4.heap.size v2 n F rfl hO2 (some ⟨gt, 0, none⟩) 1 1 [d] rfl rfl (oneD_in hT) (fun h => by cases h) (by omega) hk.size ?_
                intro v3 y3 hO3 hgr hat
                replace hk := kf_grown hgr hk hO2
                clear hgr hat hO2 hT hne2
                obtain ⟨gr, cr, rfl, -, -⟩ := World.ownsRow.form hO3 (by omega)
                refine hK.out _ _ (hKP.out _ hk) (fun hHeld => ?_)
                clear hK K
                try (conv => arg 8; simp only [Act.put, List.setIfInBounds_toArray, List.set_cons_zero, List.set_cons_succ])
                refine wpAnyH_take (i := 9) (oi := { dst := some 70, op := Op.build 26 #[(0, Operand.tmp 62), (1, Operand.tmp 69)], type := 26, pos := "law.go:70", after := #[{ on := 1, ground := Ground.data }, { on := 8, ground := Ground.data }], guard := none }) (v := ?_) rfl (by kernel_rfl) (by kernel_rfl) (by kernel_rfl) (fun _ _ _ h => h) (Or.inl ⟨by kernel_rfl, ?_⟩) (by assumption) ?_
                rotate_left 1
                · intro w' hSw
                  (try dsimp only at hSw)
                  obtain ⟨z0, z1, z2, z3, z4, z5, z6, z7⟩ := PatBox.all hSw.1
                  clear hSw
                  go_simp
                  all_goals (with_reducible rfl)
                try (conv => arg 8; simp only [Act.put, List.setIfInBounds_toArray, List.set_cons_zero, List.set_cons_succ])
                clear hHeld
                refine wpAnyH_ready (rs := [10]) (by kernel_rfl) (by simp) ?_
                refine AllReadyH.cons (o := { dst := some 7, op := Op.alloc 26, type := 0, pos := "law.go:70", after := #[], guard := none }) rfl (fun K hK => ?_) AllReadyH.nil
                refine step_new8 7 rfl rfl rfl ?_
                intro gn y4 hG' eg hb
                have hgn : W4.heap.size ≤ gn := by rw [eg]; exact hk.size
                clear eg
                replace hO3 := own_below hO3 hb
                skip
                replace hk := kf_step hb hk
                clear hb
                have hG := hG'
                clear hG'
                refine hK.out _ _ (hKP.out _ hk) (fun hHeld => ?_)
                clear hK K
                try (conv => arg 8; simp only [Act.put, List.setIfInBounds_toArray, List.set_cons_zero, List.set_cons_succ])
                clear hHeld
                refine wpAnyH_ready (rs := [11]) (by kernel_rfl) (by simp) ?_
                refine AllReadyH.cons (o := { dst := none, op := Op.store 26 (Operand.tmp 7) (Operand.tmp 70), type := 0, pos := "law.go:70", after := #[{ on := 10, ground := Ground.data }, { on := 9, ground := Ground.data }, { on := 8, ground := Ground.chain }, { on := 0, ground := Ground.phase }, { on := 1, ground := Ground.phase }, { on := 2, ground := Ground.phase }, { on := 3, ground := Ground.phase }, { on := 4, ground := Ground.phase }, { on := 5, ground := Ground.phase }, { on := 6, ground := Ground.phase }, { on := 7, ground := Ground.phase }, { on := 8, ground := Ground.phase }, { on := 9, ground := Ground.phase }, { on := 10, ground := Ground.phase }], guard := none }) rfl (fun K hK => ?_) AllReadyH.nil
                refine step_storeP _ _ rfl rfl rfl gn q (some ⟨gr, 0, none⟩) (n + 1) cr rfl rfl hG ?_
                intro w5 e5
                have hk5 : Below W4.heap.size W4 w5 := by rw [e5.out]; exact putP_below hk hgn
                refine hK.out _ _ (hKP.out _ hk5) (fun hHeld => ?_)
                clear hK K
                try (conv => arg 8; simp only [Act.put, List.setIfInBounds_toArray, List.set_cons_zero, List.set_cons_succ])
                refine wpAnyH_done (by kernel_rfl) ?_ _
                try simp only [Act.put, List.getElem_toArray, List.getElem_cons_succ, List.getElem_cons_zero, List.setIfInBounds_toArray, List.set_cons_zero, List.set_cons_succ]
                go_wp2_with fail
                go_meet
                case rel => exact newP_end hG hO3 (by rw [List.length_append, ← HN.out]; rfl) hk hgn e5.out
              refine AllReadyH.cons (o := { dst := some 7, op := Op.alloc 26, type := 0, pos := "law.go:70", after := #[], guard := none }) rfl (fun K hK => ?_) AllReadyH.nil
              refine step_new8 7 rfl rfl rfl ?_
              intro gn y3 hG' eg hb
              have hgn : W4.heap.size ≤ gn := by rw [eg]; exact hk.size
              clear eg
              replace hO2 := own_below hO2 hb
              replace hT := OneD.below hT hb
              replace hk := kf_step hb hk
              clear hb
              have hG := hG'
              clear hG'
              refine hK.out _ _ (hKP.out _ hk) (fun hHeld => ?_)
              clear hK K
              try (conv => arg 8; simp only [Act.put, List.setIfInBounds_toArray, List.set_cons_zero, List.set_cons_succ])
              clear hHeld
              refine wpAnyH_ready (rs := [8]) (by kernel_rfl) (by simp) ?_
              refine AllReadyH.cons (o := { dst := some 69, op := Op.call { callee := Callee.builtin Builtin.append, args := #[Operand.tmp 66, Operand.tmp 68], argTypes := #[24, 24] }, type := 24, pos := "law.go:70", after := #[{ on := 5, ground := Ground.data }, { on := 7, ground := Ground.data }, { on := 5, ground := Ground.chain }], guard := none }) rfl (fun K hK => ?_) AllReadyH.nil
              refine step_app 69 _ _ rfl rfl rfl W4.heap.size v2 n F rfl hO2 (some ⟨gt, 0, none⟩) 1 1 [d] rfl rfl (oneD_in hT) (fun h => by cases h) (by omega) hk.size ?_
              intro v3 y4 hO3 hgr hat
              replace hG := Fr8.grown hG hgr (Fr8.far hG hO2)
              replace hk := kf_grown hgr hk hO2
              clear hgr hat hO2 hT hne2
              obtain ⟨gr, cr, rfl, -, -⟩ := World.ownsRow.form hO3 (by omega)
              refine hK.out _ _ (hKP.out _ hk) (fun hHeld => ?_)
              clear hK K
              try (conv => arg 8; simp only [Act.put, List.setIfInBounds_toArray, List.set_cons_zero, List.set_cons_succ])
              refine wpAnyH_take (i := 9) (oi := { dst := some 70, op := Op.build 26 #[(0, Operand.tmp 62), (1, Operand.tmp 69)], type := 26, pos := "law.go:70", after := #[{ on := 1, ground := Ground.data }, { on := 8, ground := Ground.data }], guard := none }) (v := ?_) rfl (by kernel_rfl) (by kernel_rfl) (by kernel_rfl) (fun _ _ _ h => h) (Or.inl ⟨by kernel_rfl, ?_⟩) (by assumption) ?_
              rotate_left 1
              · intro w' hSw
                (try dsimp only at hSw)
                obtain ⟨z0, z1, z2, z3, z4, z5, z6, z7⟩ := PatBox.all hSw.1
                clear hSw
                go_simp
                all_goals (with_reducible rfl)
              try (conv => arg 8; simp only [Act.put, List.setIfInBounds_toArray, List.set_cons_zero, List.set_cons_succ])
              clear hHeld
              refine wpAnyH_ready (rs := [11]) (by kernel_rfl) (by simp) ?_
              refine AllReadyH.cons (o := { dst := none, op := Op.store 26 (Operand.tmp 7) (Operand.tmp 70), type := 0, pos := "law.go:70", after := #[{ on := 10, ground := Ground.data }, { on := 9, ground := Ground.data }, { on := 8, ground := Ground.chain }, { on := 0, ground := Ground.phase }, { on := 1, ground := Ground.phase }, { on := 2, ground := Ground.phase }, { on := 3, ground := Ground.phase }, { on := 4, ground := Ground.phase }, { on := 5, ground := Ground.phase }, { on := 6, ground := Ground.phase }, { on := 7, ground := Ground.phase }, { on := 8, ground := Ground.phase }, { on := 9, ground := Ground.phase }, { on := 10, ground := Ground.phase }], guard := none }) rfl (fun K hK => ?_) AllReadyH.nil
              refine step_storeP _ _ rfl rfl rfl gn q (some ⟨gr, 0, none⟩) (n + 1) cr rfl rfl hG ?_
              intro w5 e5
              have hk5 : Below W4.heap.size W4 w5 := by rw [e5.out]; exact putP_below hk hgn
              refine hK.out _ _ (hKP.out _ hk5) (fun hHeld => ?_)
              clear hK K
              try (conv => arg 8; simp only [Act.put, List.setIfInBounds_toArray, List.set_cons_zero, List.set_cons_succ])
              refine wpAnyH_done (by kernel_rfl) ?_ _
              try simp only [Act.put, List.getElem_toArray, List.getElem_cons_succ, List.getElem_cons_zero, List.setIfInBounds_toArray, List.set_cons_zero, List.set_cons_succ]
              go_wp2_with fail
              go_meet
              case rel => exact newP_end hG hO3 (by rw [List.length_append, ← HN.out]; rfl) hk hgn e5.out
            refine AllReadyH.cons (o := { dst := some 7, op := Op.alloc 26, type := 0, pos := "law.go:70", after := #[], guard := none }) rfl (fun K hK => ?_) AllReadyH.nil
            refine step_new8 7 rfl rfl rfl ?_
            intro gn y2 hG' eg hb
            have hgn : W4.heap.size ≤ gn := by rw [eg]; exact hk.size
            clear eg
            replace hO := own_below hO hb
            replace hT := OneD.below hT hb
            replace hk := kf_step hb hk
            clear hb
            have hG := hG'
            clear hG'
            refine hK.out _ _ (hKP.out _ hk) (fun hHeld => ?_)
            clear hK K
            try (conv => arg 8; simp only [Act.put, List.setIfInBounds_toArray, List.set_cons_zero, List.set_cons_succ])
            clear hHeld
            refine wpAnyH_ready (rs := [5]) (by kernel_rfl) (by simp) ?_
            refine AllReadyH.cons (o := { dst := some 66, op := Op.call { callee := Callee.builtin Builtin.append, args := #[Operand.tmp 63, Operand.tmp 65], argTypes := #[24, 24] }, type := 24, pos := "law.go:70", after := #[{ on := 2, ground := Ground.data }, { on := 4, ground := Ground.data }], guard := none }) rfl (fun K hK => ?_) AllReadyH.nil
            refine step_app 66 _ _ rfl rfl rfl W4.heap.size v 0 [] rfl hO p n c F rfl HN.out (DaysIn.below d0 hk (Nat.le_refl _)) H0P.out (by omega) hk.size ?_
            intro v2 y3 hO2 hgr hat
            replace hG := Fr8.grown hG hgr (Fr8.far hG hO)
            have hne2 := ne_app hne (lt_of_at hT) hat
            replace hT := OneD.grown hT hgr hne
            clear hne
            replace hk := kf_grown hgr hk hO
            clear hgr hat hO
            rw [List.nil_append, Nat.zero_add] at hO2
            refine hK.out _ _ (hKP.out _ hk) (fun hHeld => ?_)
            clear hK K
            try (conv => arg 8; simp only [Act.put, List.setIfInBounds_toArray, List.set_cons_zero, List.set_cons_succ])
            clear hHeld
            refine wpAnyH_ready (rs := [8]) (by kernel_rfl) (by simp) ?_
            refine AllReadyH.cons (o := { dst := some 69, op := Op.call { callee := Callee.builtin Builtin.append, args := #[Operand.tmp 66, Operand.tmp 68], argTypes := #[24, 24] }, type := 24, pos := "law.go:70", after := #[{ on := 5, ground := Ground.data }, { on := 7, ground := Ground.data }, { on := 5, ground := Ground.chain }], guard := none }) rfl (fun K hK => ?_) AllReadyH.nil
            refine step_app 69 _ _ rfl rfl rfl W4.heap.size v2 n F rfl hO2 (some ⟨gt, 0, none⟩) 1 1 [d] rfl rfl (oneD_in hT) (fun h => by cases h) (by omega) hk.size ?_
            intro v3 y4 hO3 hgr hat
            replace hG := Fr8.grown hG hgr (Fr8.far hG hO2)
            replace hk := kf_grown hgr hk hO2
            clear hgr hat hO2 hT hne2
            obtain ⟨gr, cr, rfl, -, -⟩ := World.ownsRow.form hO3 (by omega)
            refine hK.out _ _ (hKP.out _ hk) (fun hHeld => ?_)
            clear hK K
            try (conv => arg 8; simp only [Act.put, List.setIfInBounds_toArray, List.set_cons_zero, List.set_cons_succ])
            refine wpAnyH_take (i := 9) (oi := { dst := some 70, op := Op.build 26 #[(0, Operand.tmp 62), (1, Operand.tmp 69)], type := 26, pos := "law.go:70", after := #[{ on := 1, ground := Ground.data }, { on := 8, ground := Ground.data }], guard := none }) (v := ?_) rfl (by kernel_rfl) (by kernel_rfl) (by kernel_rfl) (fun _ _ _ h => h) (Or.inl ⟨by kernel_rfl, ?_⟩) (by assumption) ?_
            rotate_left 1
            · intro w' hSw
              (try dsimp only at hSw)
              obtain ⟨z0, z1, z2, z3, z4, z5, z6, z7⟩ := PatBox.all hSw.1
              clear hSw
              go_simp
              all_goals (with_reducible rfl)
            try (conv => arg 8; simp only [Act.put, List.setIfInBounds_toArray, List.set_cons_zero, List.set_cons_succ])
            clear hHeld
            refine wpAnyH_ready (rs := [11]) (by kernel_rfl) (by simp) ?_
            refine AllReadyH.cons (o := { dst := none, op := Op.store 26 (Operand.tmp 7) (Operand.tmp 70), type := 0, pos := "law.go:70", after := #[{ on := 10, ground := Ground.data }, { on := 9, ground := Ground.data }, { on := 8, ground := Ground.chain }, { on := 0, ground := Ground.phase }, { on := 1, ground := Ground.phase }, { on := 2, ground := Ground.phase }, { on := 3, ground := Ground.phase }, { on := 4, ground := Ground.phase }, { on := 5, ground := Ground.phase }, { on := 6, ground := Ground.phase }, { on := 7, ground := Ground.phase }, { on := 8, ground := Ground.phase }, { on := 9, ground := Ground.phase }, { on := 10, ground := Ground.phase }], guard := none }) rfl (fun K hK => ?_) AllReadyH.nil
            refine step_storeP _ _ rfl rfl rfl gn q (some ⟨gr, 0, none⟩) (n + 1) cr rfl rfl hG ?_
            intro w5 e5
            have hk5 : Below W4.heap.size W4 w5 := by rw [e5.out]; exact putP_below hk hgn
            refine hK.out _ _ (hKP.out _ hk5) (fun hHeld => ?_)
            clear hK K
            try (conv => arg 8; simp only [Act.put, List.setIfInBounds_toArray, List.set_cons_zero, List.set_cons_succ])
            refine wpAnyH_done (by kernel_rfl) ?_ _
            try simp only [Act.put, List.getElem_toArray, List.getElem_cons_succ, List.getElem_cons_zero, List.setIfInBounds_toArray, List.set_cons_zero, List.set_cons_succ]
            go_wp2_with fail
            go_meet
            case rel => exact newP_end hG hO3 (by rw [List.length_append, ← HN.out]; rfl) hk hgn e5.out
          refine AllReadyH.cons (o := { dst := some 7, op := Op.alloc 26, type := 0, pos := "law.go:70", after := #[], guard := none }) rfl (fun K hK => ?_) AllReadyH.nil
          refine step_new8 7 rfl rfl rfl ?_
          intro gn y1 hG' eg hb
          have hgn : W4.heap.size ≤ gn := by rw [eg]; exact hk.size
          clear eg
          replace hT := OneD.below hT hb
          replace hk := kf_step hb hk
          clear hb
          have hG := hG'
          clear hG'
          refine hK.out _ _ (hKP.out _ hk) (fun hHeld => ?_)
          clear hK K
          try (conv => arg 8; simp only [Act.put, List.setIfInBounds_toArray, List.set_cons_zero, List.set_cons_succ])
          clear hHeld
          refine wpAnyH_ready (rs := [2]) (by kernel_rfl) (by simp) ?_
          refine AllReadyH.cons (o := { dst := some 63, op := Op.buildSlice 24 0 #[], type := 24, pos := "law.go:70", after := #[], guard := none }) rfl (fun K hK => ?_) AllReadyH.nil
          refine step_bs0 63 rfl rfl rfl W4.heap.size hk.size ?_
          intro v y2 hO hv hb
          have hne := ne_new (lt_of_at hT) hv
          clear hv
          replace hT := OneD.below hT hb
          replace hG := Fr8.below hG hb
          replace hk := kf_step hb hk
          clear hb
          refine hK.out _ _ (hKP.out _ hk) (fun hHeld => ?_)
          clear hK K
          try (conv => arg 8; simp only [Act.put, List.setIfInBounds_toArray, List.set_cons_zero, List.set_cons_succ])
          clear hHeld
          refine wpAnyH_ready (rs := [5]) (by kernel_rfl) (by simp) ?_
          refine AllReadyH.cons (o := { dst := some 66, op := Op.call { callee := Callee.builtin Builtin.append, args := #[Operand.tmp 63, Operand.tmp 65], argTypes := #[24, 24] }, type := 24, pos := "law.go:70", after := #[{ on := 2, ground := Ground.data }, { on := 4, ground := Ground.data }], guard := none }) rfl (fun K hK => ?_) AllReadyH.nil
          refine step_app 66 _ _ rfl rfl rfl W4.heap.size v 0 [] rfl hO p n c F rfl HN.out (DaysIn.below d0 hk (Nat.le_refl _)) H0P.out (by omega) hk.size ?_
          intro v2 y3 hO2 hgr hat
          replace hG := Fr8.grown hG hgr (Fr8.far hG hO)
          have hne2 := ne_app hne (lt_of_at hT) hat
          replace hT := OneD.grown hT hgr hne
          clear hne
          replace hk := kf_grown hgr hk hO
          clear hgr hat hO
          rw [List.nil_append, Nat.zero_add] at hO2
          refine hK.out _ _ (hKP.out _ hk) (fun hHeld => ?_)
          clear hK K
          try (conv => arg 8; simp only [Act.put, List.setIfInBounds_toArray, List.set_cons_zero, List.set_cons_succ])
          clear hHeld
          refine wpAnyH_ready (rs := [8]) (by kernel_rfl) (by simp) ?_
          refine AllReadyH.cons (o := { dst := some 69, op := Op.call { callee := Callee.builtin Builtin.append, args := #[Operand.tmp 66, Operand.tmp 68], argTypes := #[24, 24] }, type := 24, pos := "law.go:70", after := #[{ on := 5, ground := Ground.data }, { on := 7, ground := Ground.data }, { on := 5, ground := Ground.chain }], guard := none }) rfl (fun K hK => ?_) AllReadyH.nil
          refine step_app 69 _ _ rfl rfl rfl W4.heap.size v2 n F rfl hO2 (some ⟨gt, 0, none⟩) 1 1 [d] rfl rfl (oneD_in hT) (fun h => by cases h) (by omega) hk.size ?_
          intro v3 y4 hO3 hgr hat
          replace hG := Fr8.grown hG hgr (Fr8.far hG hO2)
          replace hk := kf_grown hgr hk hO2
          clear hgr hat hO2 hT hne2
          obtain ⟨gr, cr, rfl, -, -⟩ := World.ownsRow.form hO3 (by omega)
          refine hK.out _ _ (hKP.out _ hk) (fun hHeld => ?_)
          clear hK K
          try (conv => arg 8; simp only [Act.put, List.setIfInBounds_toArray, List.set_cons_zero, List.set_cons_succ])
          refine wpAnyH_take (i := 9) (oi := { dst := some 70, op := Op.build 26 #[(0, Operand.tmp 62), (1, Operand.tmp 69)], type := 26, pos := "law.go:70", after := #[{ on := 1, ground := Ground.data }, { on := 8, ground := Ground.data }], guard := none }) (v := ?_) rfl (by kernel_rfl) (by kernel_rfl) (by kernel_rfl) (fun _ _ _ h => h) (Or.inl ⟨by kernel_rfl, ?_⟩) (by assumption) ?_
          rotate_left 1
          · intro w' hSw
            (try dsimp only at hSw)
            obtain ⟨z0, z1, z2, z3, z4, z5, z6, z7⟩ := PatBox.all hSw.1
            clear hSw
            go_simp
            all_goals (with_reducible rfl)
          try (conv => arg 8; simp only [Act.put, List.setIfInBounds_toArray, List.set_cons_zero, List.set_cons_succ])
          clear hHeld
          refine wpAnyH_ready (rs := [11]) (by kernel_rfl) (by simp) ?_
          refine AllReadyH.cons (o := { dst := none, op := Op.store 26 (Operand.tmp 7) (Operand.tmp 70), type := 0, pos := "law.go:70", after := #[{ on := 10, ground := Ground.data }, { on := 9, ground := Ground.data }, { on := 8, ground := Ground.chain }, { on := 0, ground := Ground.phase }, { on := 1, ground := Ground.phase }, { on := 2, ground := Ground.phase }, { on := 3, ground := Ground.phase }, { on := 4, ground := Ground.phase }, { on := 5, ground := Ground.phase }, { on := 6, ground := Ground.phase }, { on := 7, ground := Ground.phase }, { on := 8, ground := Ground.phase }, { on := 9, ground := Ground.phase }, { on := 10, ground := Ground.phase }], guard := none }) rfl (fun K hK => ?_) AllReadyH.nil
          refine step_storeP _ _ rfl rfl rfl gn q (some ⟨gr, 0, none⟩) (n + 1) cr rfl rfl hG ?_
          intro w5 e5
          have hk5 : Below W4.heap.size W4 w5 := by rw [e5.out]; exact putP_below hk hgn
          refine hK.out _ _ (hKP.out _ hk5) (fun hHeld => ?_)
          clear hK K
          try (conv => arg 8; simp only [Act.put, List.setIfInBounds_toArray, List.set_cons_zero, List.set_cons_succ])
          refine wpAnyH_done (by kernel_rfl) ?_ _
          try simp only [Act.put, List.getElem_toArray, List.getElem_cons_succ, List.getElem_cons_zero, List.setIfInBounds_toArray, List.set_cons_zero, List.set_cons_succ]
          go_wp2_with fail
          go_meet
          case rel => exact newP_end hG hO3 (by rw [List.length_append, ← HN.out]; rfl) hk hgn e5.out
        refine AllReadyH.cons (o := { dst := some 7, op := Op.alloc 26, type := 0, pos := "law.go:70", after := #[], guard := none }) rfl (fun K hK => ?_) AllReadyH.nil
        refine step_new8 7 rfl rfl rfl ?_
        intro gn y0 hG' eg hb
        have hgn : W4.heap.size ≤ gn := by rw [eg]; exact hk.size
        clear eg
        replace hk := kf_step hb hk
        clear hb
        have hG := hG'
        clear hG'
        refine hK.out _ _ (hKP.out _ hk) (fun hHeld => ?_)
        clear hK K
        try (conv => arg 8; simp only [Act.put, List.setIfInBounds_toArray, List.set_cons_zero, List.set_cons_succ])
        clear hHeld
        refine wpAnyH_ready (rs := [2,7]) (by kernel_rfl) (by simp) ?_
        refine AllReadyH.cons (o := { dst := some 63, op := Op.buildSlice 24 0 #[], type := 24, pos := "law.go:70", after := #[], guard := none }) rfl (fun K hK => ?_) ?_
        · refine step_bs0 63 rfl rfl rfl W4.heap.size hk.size ?_
          intro v y1 hO hv hb
          clear hv
          replace hG := Fr8.below hG hb
          replace hk := kf_step hb hk
          clear hb
          refine hK.out _ _ (hKP.out _ hk) (fun hHeld => ?_)
          clear hK K
          try (conv => arg 8; simp only [Act.put, List.setIfInBounds_toArray, List.set_cons_zero, List.set_cons_succ])
          clear hHeld
          refine wpAnyH_ready (rs := [5,7]) (by kernel_rfl) (by simp) ?_
          refine AllReadyH.cons (o := { dst := some 66, op := Op.call { callee := Callee.builtin Builtin.append, args := #[Operand.tmp 63, Operand.tmp 65], argTypes := #[24, 24] }, type := 24, pos := "law.go:70", after := #[{ on := 2, ground := Ground.data }, { on := 4, ground := Ground.data }], guard := none }) rfl (fun K hK => ?_) ?_
          · refine step_app 66 _ _ rfl rfl rfl W4.heap.size v 0 [] rfl hO p n c F rfl HN.out (DaysIn.below d0 hk (Nat.le_refl _)) H0P.out (by omega) hk.size ?_
            intro v2 y2 hO2 hgr hat
            replace hG := Fr8.grown hG hgr (Fr8.far hG hO)
            replace hk := kf_grown hgr hk hO
            clear hgr hat hO
            rw [List.nil_append, Nat.zero_add] at hO2
            refine hK.out _ _ (hKP.out _ hk) (fun hHeld => ?_)
            clear hK K
            try (conv => arg 8; simp only [Act.put, List.setIfInBounds_toArray, List.set_cons_zero, List.set_cons_succ])
            clear hHeld
            refine wpAnyH_ready (rs := [7]) (by kernel_rfl) (by simp) ?_
            refine AllReadyH.cons (o := { dst := some 68, op := Op.buildSlice 24 1 #[(0, Operand.tmp 67)], type := 24, pos := "law.go:70", after := #[{ on := 6, ground := Ground.data }], guard := none }) rfl (fun K hK => ?_) AllReadyH.nil
            refine step_bs1 68 _ d rfl rfl rfl rfl ?_
            intro gt y3 hT' et hb
            have hne2 := own_lt hO2 (g := gt) (by omega)
            clear et
            replace hO2 := own_below hO2 hb
            replace hG := Fr8.below hG hb
            replace hk := kf_step hb hk
            clear hb
            have hT := hT'
            clear hT'
            refine hK.out _ _ (hKP.out _ hk) (fun hHeld => ?_)
            clear hK K
            try (conv => arg 8; simp only [Act.put, List.setIfInBounds_toArray, List.set_cons_zero, List.set_cons_succ])
            clear hHeld
            refine wpAnyH_ready (rs := [8]) (by kernel_rfl) (by simp) ?_
            refine AllReadyH.cons (o := { dst := some 69, op := Op.call { callee := Callee.builtin Builtin.append, args := #[Operand.tmp 66, Operand.tmp 68], argTypes := #[24, 24] }, type := 24, pos := "law.go:70", after := #[{ on := 5, ground := Ground.data }, { on := 7, ground := Ground.data }, { on := 5, ground := Ground.chain }], guard := none }) rfl (fun K hK => ?_) AllReadyH.nil
            refine step_app 69 _ _ rfl rfl rfl W4.heap.size v2 n F rfl hO2 (some ⟨gt, 0, none⟩) 1 1 [d] rfl rfl (oneD_in hT) (fun h => by cases h) (by omega) hk.size ?_
            intro v3 y4 hO3 hgr hat
            replace hG := Fr8.grown hG hgr (Fr8.far hG hO2)
            replace hk := kf_grown hgr hk hO2
            clear hgr hat hO2 hT hne2
            obtain ⟨gr, cr, rfl, -, -⟩ := World.ownsRow.form hO3 (by omega)
            refine hK.out _ _ (hKP.out _ hk) (fun hHeld => ?_)
            clear hK K
            try (conv => arg 8; simp only [Act.put, List.setIfInBounds_toArray, List.set_cons_zero, List.set_cons_succ])
            refine wpAnyH_take (i := 9) (oi := { dst := some 70, op := Op.build 26 #[(0, Operand.tmp 62), (1, Operand.tmp 69)], type := 26, pos := "law.go:70", after := #[{ on := 1, ground := Ground.data }, { on := 8, ground := Ground.data }], guard := none }) (v := ?_) rfl (by kernel_rfl) (by kernel_rfl) (by kernel_rfl) (fun _ _ _ h => h) (Or.inl ⟨by kernel_rfl, ?_⟩) (by assumption) ?_
            rotate_left 1
            · intro w' hSw
              (try dsimp only at hSw)
              obtain ⟨z0, z1, z2, z3, z4, z5, z6, z7⟩ := PatBox.all hSw.1
              clear hSw
              go_simp
              all_goals (with_reducible rfl)
            try (conv => arg 8; simp only [Act.put, List.setIfInBounds_toArray, List.set_cons_zero, List.set_cons_succ])
            clear hHeld
            refine wpAnyH_ready (rs := [11]) (by kernel_rfl) (by simp) ?_
            refine AllReadyH.cons (o := { dst := none, op := Op.store 26 (Operand.tmp 7) (Operand.tmp 70), type := 0, pos := "law.go:70", after := #[{ on := 10, ground := Ground.data }, { on := 9, ground := Ground.data }, { on := 8, ground := Ground.chain }, { on := 0, ground := Ground.phase }, { on := 1, ground := Ground.phase }, { on := 2, ground := Ground.phase }, { on := 3, ground := Ground.phase }, { on := 4, ground := Ground.phase }, { on := 5, ground := Ground.phase }, { on := 6, ground := Ground.phase }, { on := 7, ground := Ground.phase }, { on := 8, ground := Ground.phase }, { on := 9, ground := Ground.phase }, { on := 10, ground := Ground.phase }], guard := none }) rfl (fun K hK => ?_) AllReadyH.nil
            refine step_storeP _ _ rfl rfl rfl gn q (some ⟨gr, 0, none⟩) (n + 1) cr rfl rfl hG ?_
            intro w5 e5
            have hk5 : Below W4.heap.size W4 w5 := by rw [e5.out]; exact putP_below hk hgn
            refine hK.out _ _ (hKP.out _ hk5) (fun hHeld => ?_)
            clear hK K
            try (conv => arg 8; simp only [Act.put, List.setIfInBounds_toArray, List.set_cons_zero, List.set_cons_succ])
            refine wpAnyH_done (by kernel_rfl) ?_ _
            try simp only [Act.put, List.getElem_toArray, List.getElem_cons_succ, List.getElem_cons_zero, List.setIfInBounds_toArray, List.set_cons_zero, List.set_cons_succ]
            go_wp2_with fail
            go_meet
            case rel => exact newP_end hG hO3 (by rw [List.length_append, ← HN.out]; rfl) hk hgn e5.out
          refine AllReadyH.cons (o := { dst := some 68, op := Op.buildSlice 24 1 #[(0, Operand.tmp 67)], type := 24, pos := "law.go:70", after := #[{ on := 6, ground := Ground.data }], guard := none }) rfl (fun K hK => ?_) AllReadyH.nil
          refine step_bs1 68 _ d rfl rfl rfl rfl ?_
          intro gt y2 hT' et hb
          have hne := own_lt hO (g := gt) (by omega)
          clear et
          replace hO := own_below hO hb
          replace hG := Fr8.below hG hb
          replace hk := kf_step hb hk
          clear hb
          have hT := hT'
          clear hT'
          refine hK.out _ _ (hKP.out _ hk) (fun hHeld => ?_)
          clear hK K
          try (conv => arg 8; simp only [Act.put, List.setIfInBounds_toArray, List.set_cons_zero, List.set_cons_succ])
          clear hHeld
          refine wpAnyH_ready (rs := [5]) (by kernel_rfl) (by simp) ?_
          refine AllReadyH.cons (o := { dst := some 66, op := Op.call { callee := Callee.builtin Builtin.append, args := #[Operand.tmp 63, Operand.tmp 65], argTypes := #[24, 24] }, type := 24, pos := "law.go:70", after := #[{ on := 2, ground := Ground.data }, { on := 4, ground := Ground.data }], guard := none }) rfl (fun K hK => ?_) AllReadyH.nil
          refine step_app 66 _ _ rfl rfl rfl W4.heap.size v 0 [] rfl hO p n c F rfl HN.out (DaysIn.below d0 hk (Nat.le_refl _)) H0P.out (by omega) hk.size ?_
          intro v2 y3 hO2 hgr hat
          replace hG := Fr8.grown hG hgr (Fr8.far hG hO)
          have hne2 := ne_app hne (lt_of_at hT) hat
          replace hT := OneD.grown hT hgr hne
          clear hne
          replace hk := kf_grown hgr hk hO
          clear hgr hat hO
          rw [List.nil_append, Nat.zero_add] at hO2
          refine hK.out _ _ (hKP.out _ hk) (fun hHeld => ?_)
          clear hK K
          try (conv => arg 8; simp only [Act.put, List.setIfInBounds_toArray, List.set_cons_zero, List.set_cons_succ])
          clear hHeld
          refine wpAnyH_ready (rs := [8]) (by kernel_rfl) (by simp) ?_
          refine AllReadyH.cons (o := { dst := some 69, op := Op.call { callee := Callee.builtin Builtin.append, args := #[Operand.tmp 66, Operand.tmp 68], argTypes := #[24, 24] }, type := 24, pos := "law.go:70", after := #[{ on := 5, ground := Ground.data }, { on := 7, ground := Ground.data }, { on := 5, ground := Ground.chain }], guard := none }) rfl (fun K hK => ?_) AllReadyH.nil
          refine step_app 69 _ _ rfl rfl rfl W4.heap.size v2 n F rfl hO2 (some ⟨gt, 0, none⟩) 1 1 [d] rfl rfl (oneD_in hT) (fun h => by cases h) (by omega) hk.size ?_
          intro v3 y4 hO3 hgr hat
          replace hG := Fr8.grown hG hgr (Fr8.far hG hO2)
          replace hk := kf_grown hgr hk hO2
          clear hgr hat hO2 hT hne2
          obtain ⟨gr, cr, rfl, -, -⟩ := World.ownsRow.form hO3 (by omega)
          refine hK.out _ _ (hKP.out _ hk) (fun hHeld => ?_)
          clear hK K
          try (conv => arg 8; simp only [Act.put, List.setIfInBounds_toArray, List.set_cons_zero, List.set_cons_succ])
          refine wpAnyH_take (i := 9) (oi := { dst := some 70, op := Op.build 26 #[(0, Operand.tmp 62), (1, Operand.tmp 69)], type := 26, pos := "law.go:70", after := #[{ on := 1, ground := Ground.data }, { on := 8, ground := Ground.data }], guard := none }) (v := ?_) rfl (by kernel_rfl) (by kernel_rfl) (by kernel_rfl) (fun _ _ _ h => h) (Or.inl ⟨by kernel_rfl, ?_⟩) (by assumption) ?_
          rotate_left 1
          · intro w' hSw
            (try dsimp only at hSw)
            obtain ⟨z0, z1, z2, z3, z4, z5, z6, z7⟩ := PatBox.all hSw.1
            clear hSw
            go_simp
            all_goals (with_reducible rfl)
          try (conv => arg 8; simp only [Act.put, List.setIfInBounds_toArray, List.set_cons_zero, List.set_cons_succ])
          clear hHeld
          refine wpAnyH_ready (rs := [11]) (by kernel_rfl) (by simp) ?_
          refine AllReadyH.cons (o := { dst := none, op := Op.store 26 (Operand.tmp 7) (Operand.tmp 70), type := 0, pos := "law.go:70", after := #[{ on := 10, ground := Ground.data }, { on := 9, ground := Ground.data }, { on := 8, ground := Ground.chain }, { on := 0, ground := Ground.phase }, { on := 1, ground := Ground.phase }, { on := 2, ground := Ground.phase }, { on := 3, ground := Ground.phase }, { on := 4, ground := Ground.phase }, { on := 5, ground := Ground.phase }, { on := 6, ground := Ground.phase }, { on := 7, ground := Ground.phase }, { on := 8, ground := Ground.phase }, { on := 9, ground := Ground.phase }, { on := 10, ground := Ground.phase }], guard := none }) rfl (fun K hK => ?_) AllReadyH.nil
          refine step_storeP _ _ rfl rfl rfl gn q (some ⟨gr, 0, none⟩) (n + 1) cr rfl rfl hG ?_
          intro w5 e5
          have hk5 : Below W4.heap.size W4 w5 := by rw [e5.out]; exact putP_below hk hgn
          refine hK.out _ _ (hKP.out _ hk5) (fun hHeld => ?_)
          clear hK K
          try (conv => arg 8; simp only [Act.put, List.setIfInBounds_toArray, List.set_cons_zero, List.set_cons_succ])
          refine wpAnyH_done (by kernel_rfl) ?_ _
          try simp only [Act.put, List.getElem_toArray, List.getElem_cons_succ, List.getElem_cons_zero, List.setIfInBounds_toArray, List.set_cons_zero, List.set_cons_succ]
          go_wp2_with fail
          go_meet
          case rel => exact newP_end hG hO3 (by rw [List.length_append, ← HN.out]; rfl) hk hgn e5.out
        refine AllReadyH.cons (o := { dst := some 68, op := Op.buildSlice 24 1 #[(0, Operand.tmp 67)], type := 24, pos := "law.go:70", after := #[{ on := 6, ground := Ground.data }], guard := none }) rfl (fun K hK => ?_) AllReadyH.nil
        refine step_bs1 68 _ d rfl rfl rfl rfl ?_
        intro gt y1 hT' et hb
        clear et
        replace hG := Fr8.below hG hb
        replace hk := kf_step hb hk
        clear hb
        have hT := hT'
        clear hT'
        refine hK.out _ _ (hKP.out _ hk) (fun hHeld => ?_)
        clear hK K
        try (conv => arg 8; simp only [Act.put, List.setIfInBounds_toArray, List.set_cons_zero, List.set_cons_succ])
        clear hHeld
        refine wpAnyH_ready (rs := [2]) (by kernel_rfl) (by simp) ?_
        refine AllReadyH.cons (o := { dst := some 63, op := Op.buildSlice 24 0 #[], type := 24, pos := "law.go:70", after := #[], guard := none }) rfl (fun K hK => ?_) AllReadyH.nil
        refine step_bs0 63 rfl rfl rfl W4.heap.size hk.size ?_
        intro v y2 hO hv hb
        have hne := ne_new (lt_of_at hT) hv
        clear hv
        replace hT := OneD.below hT hb
        replace hG := Fr8.below hG hb
        replace hk := kf_step hb hk
        clear hb
        refine hK.out _ _ (hKP.out _ hk) (fun hHeld => ?_)
        clear hK K
        try (conv => arg 8; simp only [Act.put, List.setIfInBounds_toArray, List.set_cons_zero, List.set_cons_succ])
        clear hHeld
        refine wpAnyH_ready (rs := [5]) (by kernel_rfl) (by simp) ?_
        refine AllReadyH.cons (o := { dst := some 66, op := Op.call { callee := Callee.builtin Builtin.append, args := #[Operand.tmp 63, Operand.tmp 65], argTypes := #[24, 24] }, type := 24, pos := "law.go:70", after := #[{ on := 2, ground := Ground.data }, { on := 4, ground := Ground.data }], guard := none }) rfl (fun K hK => ?_) AllReadyH.nil
        refine step_app 66 _ _ rfl rfl rfl W4.heap.size v 0 [] rfl hO p n c F rfl HN.out (DaysIn.below d0 hk (Nat.le_refl _)) H0P.out (by omega) hk.size ?_
        intro v2 y3 hO2 hgr hat
        replace hG := Fr8.grown hG hgr (Fr8.far hG hO)
        have hne2 := ne_app hne (lt_of_at hT) hat
        replace hT := OneD.grown hT hgr hne
        clear hne
        replace hk := kf_grown hgr hk hO
        clear hgr hat hO
        rw [List.nil_append, Nat.zero_add] at hO2
        refine hK.out _ _ (hKP.out _ hk) (fun hHeld => ?_)
        clear hK K
        try (conv => arg 8; simp only [Act.put, List.setIfInBounds_toArray, List.set_cons_zero, List.set_cons_succ])
        clear hHeld
        refine wpAnyH_ready (rs := [8]) (by kernel_rfl) (by simp) ?_
        refine AllReadyH.cons (o := { dst := some 69, op := Op.call { callee := Callee.builtin Builtin.append, args := #[Operand.tmp 66, Operand.tmp 68], argTypes := #[24, 24] }, type := 24, pos := "law.go:70", after := #[{ on := 5, ground := Ground.data }, { on := 7, ground := Ground.data }, { on := 5, ground := Ground.chain }], guard := none }) rfl (fun K hK => ?_) AllReadyH.nil
        refine step_app 69 _ _ rfl rfl rfl W4.heap.size v2 n F rfl hO2 (some ⟨gt, 0, none⟩) 1 1 [d] rfl rfl (oneD_in hT) (fun h => by cases h) (by omega) hk.size ?_
        intro v3 y4 hO3 hgr hat
        replace hG := Fr8.grown hG hgr (Fr8.far hG hO2)
        replace hk := kf_grown hgr hk hO2
        clear hgr hat hO2 hT hne2
        obtain ⟨gr, cr, rfl, -, -⟩ := World.ownsRow.form hO3 (by omega)
        refine hK.out _ _ (hKP.out _ hk) (fun hHeld => ?_)
        clear hK K
        try (conv => arg 8; simp only [Act.put, List.setIfInBounds_toArray, List.set_cons_zero, List.set_cons_succ])
        refine wpAnyH_take (i := 9) (oi := { dst := some 70, op := Op.build 26 #[(0, Operand.tmp 62), (1, Operand.tmp 69)], type := 26, pos := "law.go:70", after := #[{ on := 1, ground := Ground.data }, { on := 8, ground := Ground.data }], guard := none }) (v := ?_) rfl (by kernel_rfl) (by kernel_rfl) (by kernel_rfl) (fun _ _ _ h => h) (Or.inl ⟨by kernel_rfl, ?_⟩) (by assumption) ?_
        rotate_left 1
        · intro w' hSw
          (try dsimp only at hSw)
          obtain ⟨z0, z1, z2, z3, z4, z5, z6, z7⟩ := PatBox.all hSw.1
          clear hSw
          go_simp
          all_goals (with_reducible rfl)
        try (conv => arg 8; simp only [Act.put, List.setIfInBounds_toArray, List.set_cons_zero, List.set_cons_succ])
        clear hHeld
        refine wpAnyH_ready (rs := [11]) (by kernel_rfl) (by simp) ?_
        refine AllReadyH.cons (o := { dst := none, op := Op.store 26 (Operand.tmp 7) (Operand.tmp 70), type := 0, pos := "law.go:70", after := #[{ on := 10, ground := Ground.data }, { on := 9, ground := Ground.data }, { on := 8, ground := Ground.chain }, { on := 0, ground := Ground.phase }, { on := 1, ground := Ground.phase }, { on := 2, ground := Ground.phase }, { on := 3, ground := Ground.phase }, { on := 4, ground := Ground.phase }, { on := 5, ground := Ground.phase }, { on := 6, ground := Ground.phase }, { on := 7, ground := Ground.phase }, { on := 8, ground := Ground.phase }, { on := 9, ground := Ground.phase }, { on := 10, ground := Ground.phase }], guard := none }) rfl (fun K hK => ?_) AllReadyH.nil
        refine step_storeP _ _ rfl rfl rfl gn q (some ⟨gr, 0, none⟩) (n + 1) cr rfl rfl hG ?_
        intro w5 e5
        have hk5 : Below W4.heap.size W4 w5 := by rw [e5.out]; exact putP_below hk hgn
        refine hK.out _ _ (hKP.out _ hk5) (fun hHeld => ?_)
        clear hK K
        try (conv => arg 8; simp only [Act.put, List.setIfInBounds_toArray, List.set_cons_zero, List.set_cons_succ])
        refine wpAnyH_done (by kernel_rfl) ?_ _
        try simp only [Act.put, List.getElem_toArray, List.getElem_cons_succ, List.getElem_cons_zero, List.setIfInBounds_toArray, List.set_cons_zero, List.set_cons_succ]
        go_wp2_with fail
        go_meet
        case rel => exact newP_end hG hO3 (by rw [List.length_append, ← HN.out]; rfl) hk hgn e5.out
      case rest =>
      obtain ⟨W5, hW5⟩ : ∃ W5, W5 = wc := ⟨_, rfl⟩
      rw [← hW5] at hcut ⊢
      clear hW5
      obtain ⟨gn, p2, c2, rfl, hB, d2, hc2, hb⟩ := hcut
      replace hP := hP.below hb
      replace s0 := stay hb s0
      replace s1 := stay hb s1
      replace d0 := d0.stay hb
      replace hb0 := hb0.trans (hb.mono hb0.size)
      clear hb
      go_upto_region 7 with fail
      obtain ⟨T, hT⟩ : ∃ T : Bool, T = (decide (A ≤ d) && decide (d < B)) := ⟨_, rfl⟩
      have HT := Lib.hid hT
      clear hT
      go_cut [80] (fun v wx => v = .bool T ∧ wx = W5)
      case first =>
        by_cases c1 : A ≤ d
        · by_cases c3 : d < B
          · obtain rfl : T = true := by rw [HT.out, decide_eq_true c1, decide_eq_true c3]; rfl
            go_wp2
            go_meet
            case rel => exact ⟨by first | rfl | rw [decide_eq_true c3], rfl⟩
          · obtain rfl : T = false := by rw [HT.out, decide_eq_true c1, decide_eq_false c3]; rfl
            go_wp2
            go_meet
            case rel => exact ⟨by first | rfl | exact congrArg Value.bool (decide_eq_false (by omega)), rfl⟩
        · obtain rfl : T = false := by rw [HT.out, decide_eq_false c1]; rfl
          have c4 := decide_eq_false c1
          go_wp2
          go_meet
          case rel => exact ⟨by first | rfl | exact congrArg Value.bool (decide_eq_false (by omega)), rfl⟩
      case rest =>
      obtain ⟨rfl, rfl⟩ := hcut
      have HO := fun W h => On_any q F d p c W h
      rw [← HN.out] at HO
      replace HO := Lib.hid HO
      obtain ⟨lv, hlv⟩ : ∃ l, l = lessV q F d A B := ⟨_, rfl⟩
      have HL1 : Hid (T = true → lv = onV q F d) := Lib.hid (fun h => by
        have h2 := HT.out
        rw [h] at h2
        have h3 := h2.symm
        rw [Bool.and_eq_true, decide_eq_true_eq, decide_eq_true_eq] at h3
        rw [hlv]; unfold lessV; rw [if_pos h3])
      have HL0 : Hid (T = false → lv = 0) := Lib.hid (fun h => by
        have h2 := HT.out
        rw [h] at h2
        have h3 := h2.symm
        rw [Bool.and_eq_false_iff, decide_eq_false_iff_not, decide_eq_false_iff_not] at h3
        rw [hlv]; unfold lessV; rw [if_neg (fun h => by rcases h3 with h4 | h4; exact h4 h.1; exact h4 h.2)])
      have HLV := Lib.hid hlv
      clear hlv HT
      obtain ⟨W6, hW6⟩ : ∃ W6, W6 = wc := ⟨_, rfl⟩
      rw [← hW6] at hP s0 s1 d0 hb0 hB d2 ⊢
      clear hW6
      go_upto_if 80 with fail
      go_cut [8] (fun v wx => v = .int .i64 lv ∧ Below W6.heap.size W6 wx)
      case first =>
        cases T with
        | false =>
          obtain rfl := HL0.out rfl
          clear HL0 HL1
          go_wp2
          go_meet
          case rel => exact ⟨rfl, Below.refl _ _⟩
        | true =>
          have HL2 := Lib.hid (HL1.out rfl)
          clear HL0 HL1
          obtain ⟨z0, z1, z2, z3, z4, z5, z6, z7⟩ := hP.all
          go_wp2_with fail
          refine (HO.out _ d0).mono ?_
          rintro e w8 ⟨rfl, hb8⟩
          go_wp2
          go_meet
          case rel => exact ⟨by rw [HL2.out], hb8⟩
      case rest =>
      obtain ⟨W7, hW7⟩ : ∃ W7, W7 = wc := ⟨_, rfl⟩
      rw [← hW7] at hcut ⊢
      clear hW7
      obtain ⟨rfl, hb⟩ := hcut
      replace hP := hP.below hb
      replace hB := hB.below hb
      replace s0 := stay hb s0
      replace s1 := stay hb s1
      replace d0 := Lib.hid (d0.stay hb)
      replace d2 := Lib.hid (d2.stay hb)
      replace hb0 := hb0.trans (hb.mono hb0.size)
      clear hb HL0 HL1 HO
      have hG : chk q (F ++ [d]) = 0 := chk_more HK.out.symm (by rw [← HN.out]; exact hn3) HJ.out.symm (by rw [← HN.out]; exact hlast)
      have hLn : (F ++ [d]).length = n + 1 := by rw [List.length_append, ← HN.out]; rfl
      have hm := mins_more HK.out.symm hG HJ.out.symm A B
      rw [← HLV.out] at hm
      obtain ⟨M, hM⟩ : ∃ M, M = minsV q F A B := ⟨_, rfl⟩
      have b1 := minsV_bd q F A B
      have b2 := minsV_bd q (F ++ [d]) A B
      have M1 := fun W h => Minutes_any q F p c A B W h (by rw [← HN.out]; exact hcap)
      have M2 := fun W h => Minutes_any q (F ++ [d]) p2 c2 A B W h (by rw [hLn]; exact hc2)
      have C2 := fun W h => Check_any q (F ++ [d]) p2 c2 W h
      have O2 := fun W h => On_any q (F ++ [d]) d p2 c2 W h
      have hon : onV q (F ++ [d]) d = 0 := onV_free (by simp)
      rw [← HN.out, ← hM] at M1
      rw [hLn, hm, ← hM] at M2
      rw [hLn, hG] at C2
      rw [hLn, hon] at O2
      rw [hm, ← hM] at b2
      rw [← hM] at b1
      have i1 : IntKind.i64.wrap (M - lv) = M - lv := IntWalk.i64_in _ (by omega)
      replace M1 := Lib.hid M1
      replace M2 := Lib.hid M2
      replace C2 := Lib.hid C2
      replace O2 := Lib.hid O2
      clear hG hLn hm hM b1 b2 hon HLV
      obtain ⟨z0, z1, z2, z3, z4, z5, z6, z7⟩ := hP.all
      obtain ⟨x0, x1, x2, x3, x4, x5, x6, x7⟩ := hB.all
      have KP : Hid (∀ w', Below W7.heap.size W7 w' → (w'.cell? ⟨w.heap.size, 0, none⟩ = some (.int .i64 (q 0)) ∧ w'.cell? ⟨w.heap.size, 1, none⟩ = some (.int .i64 (q 1)) ∧ w'.cell? ⟨w.heap.size, 2, none⟩ = some (.int .i64 (q 2)) ∧ w'.cell? ⟨w.heap.size, 3, none⟩ = some (.int .i64 (q 3)) ∧ w'.cell? ⟨w.heap.size, 4, none⟩ = some (.int .i64 (q 4)) ∧ w'.cell? ⟨w.heap.size, 5, none⟩ = some (.int .i64 (q 5)) ∧ w'.cell? ⟨w.heap.size, 6, none⟩ = some (.int .i64 (q 6)) ∧ w'.cell? ⟨w.heap.size, 7, none⟩ = some (.slice p n c) ∧ w'.cell? ⟨gn, 0, none⟩ = some (.int .i64 (q 0)) ∧ w'.cell? ⟨gn, 1, none⟩ = some (.int .i64 (q 1)) ∧ w'.cell? ⟨gn, 2, none⟩ = some (.int .i64 (q 2)) ∧ w'.cell? ⟨gn, 3, none⟩ = some (.int .i64 (q 3)) ∧ w'.cell? ⟨gn, 4, none⟩ = some (.int .i64 (q 4)) ∧ w'.cell? ⟨gn, 5, none⟩ = some (.int .i64 (q 5)) ∧ w'.cell? ⟨gn, 6, none⟩ = some (.int .i64 (q 6)) ∧ w'.cell? ⟨gn, 7, none⟩ = some (.slice p2 (n + 1) c2) ∧ w'.cell? ⟨w.heap.size + 1, 0, none⟩ = some (.int .i64 A) ∧ w'.cell? ⟨w.heap.size + 1, 1, none⟩ = some (.int .i64 B)) ∧ Below W7.heap.size W7 w') := Lib.hid (fun w' h => ⟨⟨stay h z0, stay h z1, stay h z2, stay h z3, stay h z4, stay h z5, stay h z6, stay h z7, stay h x0, stay h x1, stay h x2, stay h x3, stay h x4, stay h x5, stay h x6, stay h x7, stay h s0, stay h s1⟩, h⟩)
      clear hP hB
      go_wp2
      go_region_held3 (fun w' => (w'.cell? ⟨w.heap.size, 0, none⟩ = some (.int .i64 (q 0)) ∧ w'.cell? ⟨w.heap.size, 1, none⟩ = some (.int .i64 (q 1)) ∧ w'.cell? ⟨w.heap.size, 2, none⟩ = some (.int .i64 (q 2)) ∧ w'.cell? ⟨w.heap.size, 3, none⟩ = some (.int .i64 (q 3)) ∧ w'.cell? ⟨w.heap.size, 4, none⟩ = some (.int .i64 (q 4)) ∧ w'.cell? ⟨w.heap.size, 5, none⟩ = some (.int .i64 (q 5)) ∧ w'.cell? ⟨w.heap.size, 6, none⟩ = some (.int .i64 (q 6)) ∧ w'.cell? ⟨w.heap.size, 7, none⟩ = some (.slice p n c) ∧ w'.cell? ⟨gn, 0, none⟩ = some (.int .i64 (q 0)) ∧ w'.cell? ⟨gn, 1, none⟩ = some (.int .i64 (q 1)) ∧ w'.cell? ⟨gn, 2, none⟩ = some (.int .i64 (q 2)) ∧ w'.cell? ⟨gn, 3, none⟩ = some (.int .i64 (q 3)) ∧ w'.cell? ⟨gn, 4, none⟩ = some (.int .i64 (q 4)) ∧ w'.cell? ⟨gn, 5, none⟩ = some (.int .i64 (q 5)) ∧ w'.cell? ⟨gn, 6, none⟩ = some (.int .i64 (q 6)) ∧ w'.cell? ⟨gn, 7, none⟩ = some (.slice p2 (n + 1) c2) ∧ w'.cell? ⟨w.heap.size + 1, 0, none⟩ = some (.int .i64 A) ∧ w'.cell? ⟨w.heap.size + 1, 1, none⟩ = some (.int .i64 B)) ∧ Below W7.heap.size W7 w') (first | exact KP.out _ kf_drew | exact KP.out _ (by assumption)) (first | (go_at_call 15; first | ((with_reducible refine (M1.out _ (d0.out.kp' (by assumption))).mono ?_); rintro e wx ⟨rfl, hbx⟩; have hkx : Below W7.heap.size W7 wx := kf_call hbx (by assumption)) | ((with_reducible refine (M2.out _ (d2.out.kp' (by assumption))).mono ?_); rintro e wx ⟨rfl, hbx⟩; have hkx : Below W7.heap.size W7 wx := kf_call hbx (by assumption))) | (go_at_call 12; ((with_reducible refine (C2.out _ (d2.out.kp' (by assumption))).mono ?_); rintro e wx ⟨rfl, hbx⟩; have hkx : Below W7.heap.size W7 wx := kf_call hbx (by assumption))) | (go_at_call 13; ((with_reducible refine (O2.out _ (d2.out.kp' (by assumption))).mono ?_); rintro e wx ⟨rfl, hbx⟩; have hkx : Below W7.heap.size W7 wx := kf_call hbx (by assumption))) | (go_at_call 9; refine (awake_any _).mono ?_; rintro e wx ⟨rfl, hbx⟩; have hkx : Below W7.heap.size W7 wx := kf_call hbx (by assumption)))
      go_wp2
      go_ret
      exact ⟨rfl, hb0.trans (Below.mono (by assumption) hb0.size)⟩

end Go.Proofs.Ytenamccikglbaaa
