/-
  What is proved: the contract of leave's check: what is wrong with a plan, a day, or moves. Conditions: at most 100000 moves, in memory.
-/
import Derived.Test.YtpejdbnphjheeaaDoorLvM
namespace Go.Proofs.YtpejdbnphjheeaaDoor
open Go Go.RowKit Go.Proofs Go.Proofs.YtpejdbnphjheeaaDoor.Cv

theorem isDay_grow (n : Int) (w : World) : Calls Tryd.prog 29 #[.int .i64 n] w fun e w' => e = .returned (.bool (inB n)) ∧ ∃ q os', w' = Go.Sort.grow (w.drewN q) os' :=
  (isDay_any n w).mono (fun _ _ ⟨h, k⟩ => ⟨h, 0, #[], by rw [k, Go.Sort.grow_empty]; rfl⟩)
/-- What is wrong with a move. -/
def mvErr (Y0 : Int) (D G T : Nat → Int) (j : Nat) : Int :=
  if inB (D j) = false ∨ D j < jan Y0 then 15 else if 0 < j ∧ D j < D (j - 1) then 8 else if G j < 0 ∨ 1000000 < G j ∨ T j < 0 ∨ 1000000 < T j then 2 else 0
/-- The first error of so many. -/
def firstE (g : Nat → Int) : Nat → Int
  | 0 => 0
  | n + 1 => if firstE g n = 0 then g n else firstE g n
theorem firstE_at {g : Nat → Int} {k : Nat} : ∀ {n : Nat}, k < n → firstE g k = 0 → g k ≠ 0 → firstE g n = g k
  | 0, h, _, _ => by omega
  | n + 1, h, h0, h1 => by
    unfold firstE
    by_cases e : k = n
    · rw [← e, if_pos h0]
    · rw [firstE_at (n := n) (by omega) h0 h1, if_neg h1]
theorem firstE_zero {g : Nat → Int} : ∀ {n : Nat}, firstE g n = 0 → ∀ j, j < n → g j = 0
  | 0, _, j, h => by omega
  | n + 1, h, j, hj => by
    unfold firstE at h
    by_cases e : firstE g n = 0
    · rw [if_pos e] at h
      by_cases ej : j = n
      · rw [ej]; exact h
      · exact firstE_zero e j (by omega)
    · rw [if_neg e] at h; exact absurd h e
theorem firstE_none {g : Nat → Int} : ∀ {n : Nat}, (∀ j, j < n → g j = 0) → firstE g n = 0
  | 0, _ => rfl
  | n + 1, h => by unfold firstE; rw [firstE_none (n := n) (fun j hj => h j (by omega)), if_pos rfl]; exact h n (by omega)
def badPlan (Y0 Ca Ex : Int) : Prop := Y0 < 1900 ∨ 2199 < Y0 ∨ Ca < 0 ∨ 1000000 < Ca ∨ Ex < 0 ∨ 12 < Ex
instance (Y0 Ca Ex : Int) : Decidable (badPlan Y0 Ca Ex) := by unfold badPlan; infer_instance
def checkV (Y0 Ca Ex u : Int) (n : Nat) (D G T : Nat → Int) : Int := if badPlan Y0 Ca Ex then 2 else if inB u = false then 15 else if 4096 < n then 5 else firstE (mvErr Y0 D G T) n
def CheckPost (v : Int) (w : World) (e : Ending) (w' : World) : Prop := e = .returned (.int .i64 v) ∧ Below w.heap.size w w'

set_option maxHeartbeats 2000000 in
theorem check_bad (Y0 Ca Ex u : Int) (p : Option Addr) (n cp : Nat) (w : World) (h : badPlan Y0 Ca Ex) :
    Calls Tryd.prog 18 #[.agg #[.int .i64 Y0, .int .i64 Ca, .int .i64 Ex], .int .i64 u, .slice p n cp] w (CheckPost 2 w) := by
  have hb0 : Below w.heap.size w (w.alloc (.cells #[.int .i64 Y0, .int .i64 Ca, .int .i64 Ex] 23)) := (Below.refl _ _).alloc (Nat.le_refl _) _
  have key : decide (Y0 < 1900) = true ∨ (decide (Y0 < 1900) = false ∧ decide (2199 < Y0) = true) ∨ (decide (Y0 < 1900) = false ∧ decide (2199 < Y0) = false ∧ decide (Ca < 0) = true) ∨ (decide (Y0 < 1900) = false ∧ decide (2199 < Y0) = false ∧ decide (Ca < 0) = false ∧ decide (1000000 < Ca) = true) ∨ (decide (Y0 < 1900) = false ∧ decide (2199 < Y0) = false ∧ decide (Ca < 0) = false ∧ decide (1000000 < Ca) = false ∧ decide (Ex < 0) = true) ∨ (decide (Y0 < 1900) = false ∧ decide (2199 < Y0) = false ∧ decide (Ca < 0) = false ∧ decide (1000000 < Ca) = false ∧ decide (Ex < 0) = false ∧ decide (12 < Ex) = true) := by
    simp only [decide_eq_true_eq, decide_eq_false_iff_not]
    unfold badPlan at h
    omega
  clear h
  rcases key with a1 | ⟨a1, a2⟩ | ⟨a1, a2, a3⟩ | ⟨a1, a2, a3, a4⟩ | ⟨a1, a2, a3, a4, a5⟩ | ⟨a1, a2, a3, a4, a5, a6⟩
  all_goals
    go_enter Tryd.func18, Tryd.ntmps18
    go_wp2
    go_ret
    exact ⟨rfl, hb0⟩

set_option maxHeartbeats 4000000 in
set_option maxRecDepth 100000 in
theorem check_any (Y0 Ca Ex u : Int) (p : Option Addr) (n cp : Nat) (D G T : Nat → Int) (w : World) (hn : n ≤ 4096) (hM : MvIn w p n D G T) (hL : Len w) :
    Calls Tryd.prog 18 #[.agg #[.int .i64 Y0, .int .i64 Ca, .int .i64 Ex], .int .i64 u, .slice p n cp] w (CheckPost (checkV Y0 Ca Ex u n D G T) w) := by
  by_cases hbad : badPlan Y0 Ca Ex
  · rw [show checkV Y0 Ca Ex u n D G T = 2 by unfold checkV; rw [if_pos hbad]]
    exact check_bad Y0 Ca Ex u p n cp w hbad
  have hv : checkV Y0 Ca Ex u n D G T = if inB u = false then 15 else firstE (mvErr Y0 D G T) n := by unfold checkV; rw [if_neg hbad, if_neg (show ¬ 4096 < n by omega)]
  rw [hv]
  unfold badPlan at hbad
  have a1 : decide (Y0 < 1900) = false := decide_eq_false (by omega)
  have a2 : decide (2199 < Y0) = false := decide_eq_false (by omega)
  have a3 : decide (Ca < 0) = false := decide_eq_false (by omega)
  have a4 : decide (1000000 < Ca) = false := decide_eq_false (by omega)
  have a5 : decide (Ex < 0) = false := decide_eq_false (by omega)
  have a6 : decide (12 < Ex) = false := decide_eq_false (by omega)
  have y1 : 1900 ≤ Y0 := by omega
  have y2 : Y0 ≤ 2199 := by omega
  obtain ⟨W1, hW1⟩ : ∃ W1, W1 = w.alloc (.cells #[.int .i64 Y0, .int .i64 Ca, .int .i64 Ex] 23) := ⟨_, rfl⟩
  have hb0 : Below w.heap.size w W1 := by rw [hW1]; exact (Below.refl _ _).alloc (Nat.le_refl _) _
  have hbs : w.heap.size < W1.heap.size := by rw [hW1]; simp
  have q0 : W1.cell? ⟨w.heap.size, 0, none⟩ = some (.int .i64 Y0) := by rw [hW1, World.cell?_alloc_new]; rfl
  have HM := Lib.hid (hM.below hb0 (Nat.le_refl _))
  have HL := Lib.hid (by rw [hW1]; exact hL.alloc _ : Len W1)
  have HB0 := Lib.hid hb0
  have mixed : Tryd.prog.follows .mixedOrders = true := by kernel_rfl
  clear hM hL hbad hv
  cases hu : inB u
  · rw [if_pos rfl]
    have HI := fun W => isDay_any u W
    rw [hu] at HI
    go_enter Tryd.func18, Tryd.ntmps18
    go_wp2_with (go_at_call 29; refine (HI _).mono ?_; rintro e w' ⟨rfl, rfl⟩)
    go_ret
    rw [← hW1]
    exact ⟨rfl, HB0.out⟩
  · rw [if_neg (by simp)]
    have HI := Lib.hid (fun W => isDay_any u W)
    rw [hu] at HI
    have i0 : ¬ (4096 : Int) < (n : Int) := by omega
    clear hb0 hu
    go_enter Tryd.func18, Tryd.ntmps18
    go_wp2_with (go_at_call 29; refine (HI.out _).mono ?_; rintro e w' ⟨rfl, rfl⟩)
    rw [← hW1]
    clear hW1
    go_loopw [7, 8, 45] (fun _ _ kv wr => ∃ k : Nat, k ≤ n ∧ kv = .int .i64 k ∧ Hid (firstE (mvErr Y0 D G T) k = 0) ∧ Below W1.heap.size W1 wr) (fun _ _ kv _ => n - (RowKit.intOf kv).toNat)
    case atStart => exact ⟨0, by omega, rfl, Lib.hid rfl, Below.refl _ _⟩
    case round =>
      obtain ⟨k, hk, rfl, HF, hb⟩ := hrel
      have hbz := hb.size
      by_cases hlt : k < n
      · rcases HM.out with h | ⟨bb, o, rfl, hc⟩
        · omega
        obtain ⟨c0, c1, c2⟩ := hc k hlt
        have hbb := World.block_lt_of_cell? W1 _ c0
        have e0 := (hb.cell (p := ⟨bb, o + k * 3, none⟩) hbb).trans c0
        have e1 := (hb.cell (p := ⟨bb, o + k * 3 + 1, none⟩) hbb).trans c1
        have e2 := (hb.cell (p := ⟨bb, o + k * 3 + 2, none⟩) hbb).trans c2
        have HCP := Lib.hid (fun q (hq : q < n) => (hc q hq).1)
        have i1 : (k : Int) < (n : Int) := by omega
        clear c0 c1 c2 hc
        obtain ⟨d, hd⟩ : ∃ d, D k = d := ⟨_, rfl⟩
        obtain ⟨gk, hgk⟩ : ∃ d, G k = d := ⟨_, rfl⟩
        obtain ⟨tk, htk⟩ : ∃ d, T k = d := ⟨_, rfl⟩
        rw [hd] at e0
        rw [hgk] at e1
        rw [htk] at e2
        have HE := Lib.hid (show mvErr Y0 D G T k = if inB d = false ∨ d < jan Y0 then 15 else if 0 < k ∧ d < D (k - 1) then 8 else if gk < 0 ∨ 1000000 < gk ∨ tk < 0 ∨ 1000000 < tk then 2 else 0 by unfold mvErr; rw [hd, hgk, htk])
        clear hd hgk htk
        obtain ⟨w3, hw3⟩ : ∃ w3, w3 = wr.alloc (.cells #[.int .i64 d, .int .i64 gk, .int .i64 tk] 42) := ⟨_, rfl⟩
        have hb3 : Below W1.heap.size W1 w3 := by rw [hw3]; exact hb.alloc hbz _
        have hl3 : wr.heap.size < w3.heap.size := by rw [hw3]; simp
        have x0 : w3.cell? ⟨wr.heap.size, 0, none⟩ = some (.int .i64 d) := by rw [hw3, World.cell?_alloc_new]; rfl
        have x1 : w3.cell? ⟨wr.heap.size, 1, none⟩ = some (.int .i64 gk) := by rw [hw3, World.cell?_alloc_new]; rfl
        have x2 : w3.cell? ⟨wr.heap.size, 2, none⟩ = some (.int .i64 tk) := by rw [hw3, World.cell?_alloc_new]; rfl
        have x3 : w3.cell? ⟨w.heap.size, 0, none⟩ = some (.int .i64 Y0) := (hb3.cell (p := ⟨w.heap.size, 0, none⟩) hbs).trans q0
        have k0 := fun q os => Go.cell_grown (by exact hl3) x0 q os
        have k3 := fun q os => Go.cell_grown (by exact World.block_lt_of_cell? w3 _ x3) x3 q os
        have HL3 := Lib.hid (fun q os => Len.grown (HL.out.below hb3 (Nat.le_refl _)) q os)
        have HC := Lib.hid (fun W (hW : Len W) => mstart_grow Y0 1 y1 y2 (by omega) (by omega) W hW)
        rw [mstart_jan] at HC
        have HI2 := Lib.hid (fun W => isDay_grow d W)
        obtain ⟨J, hJ⟩ : ∃ J, jan Y0 = J := ⟨_, rfl⟩
        rw [hJ] at HC HE
        clear hJ
        have HBW := Lib.hid (fun q os => (show Below W1.heap.size W1 (Go.Sort.grow (w3.drewN q) os) from hb3.trans ⟨rfl, rfl, rfl, by rw [Go.Sort.size_grow]; exact Nat.le_add_right _ _, fun i hi => Go.Sort.heap_grow_old _ _ (by have := hb3.size; show i < w3.heap.size; omega)⟩))
        have hfin : ∀ v : Int, v ≠ 0 → mvErr Y0 D G T k = v → firstE (mvErr Y0 D G T) n = v := fun v h1 h2 => by rw [firstE_at hlt HF.out (by rw [h2]; exact h1), h2]
        have HFIN := Lib.hid hfin
        clear hfin hb hb3
        cases hi : inB d
        · have HE15 := Lib.hid (HFIN.out 15 (by decide) (by rw [HE.out, if_pos (.inl hi)]))
          rw [hi] at HI2
          go_wp2
          rw [← hw3]
          clear hw3 x0 x1 x2 x3
          go_quiet_grown (first | (go_at_call 29; refine Calls.grown_of (HI2.out _)))
          go_wp2
          go_ret
          rw [HE15.out]
          exact ⟨rfl, HB0.out.trans ((HBW.out _ _).mono HB0.out.size)⟩
        · rw [hi] at HI2
          by_cases hJd : d < J
          · have d1 : decide (d < J) = true := decide_eq_true hJd
            have HE15 := Lib.hid (HFIN.out 15 (by decide) (by rw [HE.out, if_pos (.inr hJd)]))
            go_wp2
            rw [← hw3]
            clear hw3 x0 x1 x2 x3
            go_quiet_grown (first | (go_at_call 29; refine Calls.grown_of (HI2.out _)) | (go_at_call 30; refine Calls.grown_of (HC.out _ (HL3.out _ _))))
            go_wp2
            go_ret
            rw [HE15.out]
            exact ⟨rfl, HB0.out.trans ((HBW.out _ _).mono HB0.out.size)⟩
          · have d1 : decide (d < J) = false := decide_eq_false hJd
            have HE2 := Lib.hid (show mvErr Y0 D G T k = if 0 < k ∧ d < D (k - 1) then 8 else if gk < 0 ∨ 1000000 < gk ∨ tk < 0 ∨ 1000000 < tk then 2 else 0 by rw [HE.out, if_neg (by rw [hi]; simp; omega)])
            clear HE
            go_wp2
            rw [← hw3]
            clear hw3
            go_quiet_grown (first | (go_at_call 29; refine Calls.grown_of (HI2.out _)) | (go_at_call 30; refine Calls.grown_of (HC.out _ (HL3.out _ _))))
            have z0 := Go.cell_grown (by exact hl3) x0 nq osq
            have z1 := Go.cell_grown (by exact hl3) x1 nq osq
            have z2 := Go.cell_grown (by exact hl3) x2 nq osq
            have hb4 := HBW.out nq osq
            clear k0 k3 x0 x1 x2 x3
            generalize Go.Sort.grow (w3.drewN nq) osq = w4 at z0 z1 z2 hb4 ⊢
            by_cases hprev : 0 < k ∧ d < D (k - 1)
            · have HE8 := Lib.hid (HFIN.out 8 (by decide) (by rw [HE2.out, if_pos hprev]))
              obtain ⟨hk0, hpd⟩ := hprev
              obtain ⟨q, rfl⟩ : ∃ q, k = q + 1 := ⟨k - 1, by omega⟩
              rw [Nat.add_sub_cancel] at hpd
              have zp := (hb4.cell (p := ⟨bb, o + q * 3, none⟩) hbb).trans (HCP.out q (by omega))
              generalize D q = dq at zp hpd
              have d2 : decide ((0 : Int) < (q : Int) + 1) = true := decide_eq_true (by omega)
              have d3 : decide (d < dq) = true := decide_eq_true hpd
              have i2 : (q : Int) + 1 - 1 = (q : Int) := by omega
              have i3 : (q : Int) < (n : Int) := by omega
              have i4 : IntKind.i64.wrap (q : Int) = (q : Int) := IntWalk.i64_in _ (by omega)
              rw [show (((q + 1 : Nat)) : Int) = (q : Int) + 1 by omega]
              clear hpd
              go_wp2
              go_quiet (fail)
              go_wp2
              go_ret
              rw [HE8.out]
              exact ⟨rfl, HB0.out.trans ((below_drewN hb4 _).mono HB0.out.size)⟩
            · have HE3 := Lib.hid (show mvErr Y0 D G T k = if gk < 0 ∨ 1000000 < gk ∨ tk < 0 ∨ 1000000 < tk then 2 else 0 by rw [HE2.out, if_neg hprev])
              have hzp : Hid (∃ dq, decide ((0 : Int) < (k : Int)) = false ∨ (decide ((0 : Int) < (k : Int)) = true ∧ 0 < k ∧ w4.cell? ⟨bb, o + (k - 1) * 3, none⟩ = some (.int .i64 dq) ∧ decide (d < dq) = false)) := Lib.hid (by
                by_cases c : 0 < k
                · exact ⟨D (k - 1), .inr ⟨decide_eq_true (by omega), c, (hb4.cell (p := ⟨bb, o + (k - 1) * 3, none⟩) hbb).trans (HCP.out (k - 1) (by omega)), decide_eq_false (by omega)⟩⟩
                · exact ⟨0, .inl (decide_eq_false (by omega))⟩)
              clear HE2 hprev
              have tail : ∀ w5, Below W1.heap.size W1 w5 → w5.cell? ⟨wr.heap.size, 0, none⟩ = some (.int .i64 d) → w5.cell? ⟨wr.heap.size, 1, none⟩ = some (.int .i64 gk) → w5.cell? ⟨wr.heap.size, 2, none⟩ = some (.int .i64 tk) → True := fun _ _ _ _ _ => trivial
              clear tail
              have hq : Hid ((decide (gk < 0) = true ∨ (decide (gk < 0) = false ∧ decide (1000000 < gk) = true) ∨ (decide (gk < 0) = false ∧ decide (1000000 < gk) = false ∧ decide (tk < 0) = true) ∨ (decide (gk < 0) = false ∧ decide (1000000 < gk) = false ∧ decide (tk < 0) = false ∧ decide (1000000 < tk) = true)) ∧ firstE (mvErr Y0 D G T) n = 2 ∨ (decide (gk < 0) = false ∧ decide (1000000 < gk) = false ∧ decide (tk < 0) = false ∧ decide (1000000 < tk) = false) ∧ firstE (mvErr Y0 D G T) (k + 1) = 0) := Lib.hid (by
                by_cases c : gk < 0 ∨ 1000000 < gk ∨ tk < 0 ∨ 1000000 < tk
                · left
                  refine ⟨?_, HFIN.out 2 (by decide) (by rw [HE3.out, if_pos c])⟩
                  simp only [decide_eq_true_eq, decide_eq_false_iff_not]
                  omega
                · right
                  refine ⟨?_, by unfold firstE; rw [if_pos HF.out, HE3.out, if_neg c]⟩
                  simp only [decide_eq_false_iff_not]
                  omega)
              obtain ⟨dq, hzq⟩ := hzp.out
              clear hzp HE3 HFIN HF HBW HC HI2 HL3
              rcases hzq with d2 | ⟨d2, hk0, zp, d3⟩
              · obtain rfl : k = 0 := by
                  have := of_decide_eq_false d2
                  omega
                clear d2
                rw [show (((0 : Nat)) : Int) = 0 from rfl]
                rcases hq.out with ⟨hbad, hv⟩ | ⟨⟨g1, g2, g3, g4⟩, hv⟩
                · have HV := Lib.hid hv
                  clear hv hq
                  rcases hbad with g1 | ⟨g1, g2⟩ | ⟨g1, g2, g3⟩ | ⟨g1, g2, g3, g4⟩
                  all_goals
                    go_wp2
                    go_quiet (fail)
                    go_wp2
                    go_ret
                    rw [HV.out]
                    exact ⟨rfl, HB0.out.trans ((below_drewN hb4 _).mono HB0.out.size)⟩
                · have HV := Lib.hid hv
                  clear hv hq
                  go_wp2
                  go_quiet (fail)
                  go_wp2
                  exact ⟨⟨1, by omega, by go_num, HV, below_drewN hb4 _⟩, by simp [RowKit.intOf]; omega⟩
              · obtain ⟨q, rfl⟩ : ∃ q, k = q + 1 := ⟨k - 1, by omega⟩
                rw [Nat.add_sub_cancel] at zp
                rw [show (((q + 1 : Nat)) : Int) = (q : Int) + 1 by omega] at d2
                have i2 : (q : Int) + 1 - 1 = (q : Int) := by omega
                have i3 : (q : Int) < (n : Int) := by omega
                have i4 : IntKind.i64.wrap (q : Int) = (q : Int) := IntWalk.i64_in _ (by omega)
                rw [show (((q + 1 : Nat)) : Int) = (q : Int) + 1 by omega]
                rcases hq.out with ⟨hbad, hv⟩ | ⟨⟨g1, g2, g3, g4⟩, hv⟩
                · have HV := Lib.hid hv
                  clear hv hq
                  rcases hbad with g1 | ⟨g1, g2⟩ | ⟨g1, g2, g3⟩ | ⟨g1, g2, g3, g4⟩
                  all_goals
                    go_wp2
                    go_quiet (fail)
                    go_wp2
                    go_ret
                    rw [HV.out]
                    exact ⟨rfl, HB0.out.trans ((below_drewN hb4 _).mono HB0.out.size)⟩
                · have HV := Lib.hid hv
                  clear hv hq
                  go_wp2
                  go_quiet (fail)
                  go_wp2
                  exact ⟨⟨q + 1 + 1, by omega, by go_num, HV, below_drewN hb4 _⟩, by simp [RowKit.intOf]; omega⟩
      · obtain rfl : k = n := by omega
        go_wp2
        go_ret
        rw [HF.out]
        exact ⟨rfl, HB0.out.trans (hb.mono HB0.out.size)⟩

end Go.Proofs.YtpejdbnphjheeaaDoor
