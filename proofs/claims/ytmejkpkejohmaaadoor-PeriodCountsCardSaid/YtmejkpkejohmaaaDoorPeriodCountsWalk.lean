/-
  What is proved: the walk of the statement PeriodCounts: the call returns true. Conditions: the tables read as their texts lay them.
-/
import Derived.Test.YtmejkpkejohmaaaDoorPdV
import Derived.Deep.RegionHeld3
import Derived.LoopN
namespace Go.Proofs.YtmejkpkejohmaaaDoor
open Go Go.RowKit Go.Proofs
set_option linter.unusedVariables false

theorem Below.own {w w' w'' : World} {base : Nat} {v : Value} (h : Below base w w') (hg : w'.grownBy w'' v.ownBlock) (hs : base ≤ w'.heap.size) (hk : ∀ k, v.ownBlock = some k → base ≤ k) : Below base w w'' := h.grown hg hs hk

theorem Tab3.tabs {W : World} (h : Tab3 W) : Tabs W := h.1
theorem slice_inj {g h m n c e : Nat} (x : Value.slice (some ⟨g, 0, none⟩) m c = Value.slice (some ⟨h, 0, none⟩) n e) : g = h ∧ c = e := by
  simp only [Value.slice.injEq, Option.some.injEq, Addr.mk.injEq] at x
  exact ⟨x.1.1, x.2.2⟩

set_option maxHeartbeats 8000000 in
set_option maxRecDepth 100000 in
theorem walkPeriodCounts (k f l d0 d1 d2 : Int) (w : World) (wc : (-9223372036854775808 ≤ k ∧ k ≤ 9223372036854775807) ∧ (-9223372036854775808 ≤ f ∧ f ≤ 9223372036854775807) ∧ (-9223372036854775808 ≤ l ∧ l ≤ 9223372036854775807)) (hT : Tab3 w) :
    Calls Tryd.prog 3 #[.agg #[.int .i64 k, .int .i64 f, .int .i64 l], .agg #[.int .i64 d0, .int .i64 d1, .int .i64 d2]] w fun e w' => e = .returned (.bool true) ∧ Below w.heap.size w w' := by
  have HF0 := Lib.hid (fun W hT => Find_any k f l d0 W hT)
  have HF1 := Lib.hid (fun W hT => Find_any k f l d1 W hT)
  have HF2 := Lib.hid (fun W hT => Find_any k f l d2 W hT)
  have HA := Lib.hid (fun W hT => awake_any W hT)
  obtain ⟨W1, hW1⟩ : ∃ W1, W1 = (w.alloc (.cells #[.int .i64 k, .int .i64 f, .int .i64 l] 24)).alloc (.cells #[.int .i64 d0, .int .i64 d1, .int .i64 d2] 25) := ⟨_, rfl⟩
  have hza : (w.alloc (.cells #[.int .i64 k, .int .i64 f, .int .i64 l] 24)).heap.size = w.heap.size + 1 := by simp
  have hb1 : Below (w.alloc (.cells #[.int .i64 k, .int .i64 f, .int .i64 l] 24)).heap.size (w.alloc (.cells #[.int .i64 k, .int .i64 f, .int .i64 l] 24)) W1 := by rw [hW1]; exact (Below.refl _ _).alloc (Nat.le_refl _) _
  have hb0 : Below w.heap.size w W1 := by rw [hW1]; exact ((Below.refl w.heap.size w).alloc (Nat.le_refl _) _).alloc (by simp) _
  have C1 : CalAt W1 w.heap.size k f l := CalAt.stay ⟨by rw [World.cell?_alloc_new]; rfl, by rw [World.cell?_alloc_new]; rfl, by rw [World.cell?_alloc_new]; rfl⟩ hb1
  have s0 : W1.cell? ⟨w.heap.size + 1, 0, none⟩ = some (.int .i64 d0) := by rw [hW1, ← hza, World.cell?_alloc_new]; rfl
  have s1 : W1.cell? ⟨w.heap.size + 1, 1, none⟩ = some (.int .i64 d1) := by rw [hW1, ← hza, World.cell?_alloc_new]; rfl
  have s2 : W1.cell? ⟨w.heap.size + 1, 2, none⟩ = some (.int .i64 d2) := by rw [hW1, ← hza, World.cell?_alloc_new]; rfl
  have T1 := Lib.hid (hT.stay hb0)
  have HC := Lib.hid C1
  obtain ⟨x0, x1, x2⟩ := C1
  obtain ⟨it, hi0, hz0, hz1, hz2⟩ := info_of infoPer
  have HI := Lib.hid (And.intro hi0 (And.intro hz0 (And.intro hz1 hz2)))
  have hB0 := Below.refl W1.heap.size W1
  rw [hW1] at s0 s1 s2
  clear hT wc hb1 hza hi0 hz0 hz1 hz2
  have j0 : ∀ W, (Instr.index 25 (.agg #[.int .i64 d0, .int .i64 d1, .int .i64 d2]) (.int .i64 0)).run Tryd.prog W = .ok (.int .i64 d0) W := fun _ => by kernel_rfl
  have j1 : ∀ W, (Instr.index 25 (.agg #[.int .i64 d0, .int .i64 d1, .int .i64 d2]) (.int .i64 1)).run Tryd.prog W = .ok (.int .i64 d1) W := fun _ => by kernel_rfl
  have j2 : ∀ W, (Instr.index 25 (.agg #[.int .i64 d0, .int .i64 d1, .int .i64 d2]) (.int .i64 2)).run Tryd.prog W = .ok (.int .i64 d2) W := fun _ => by kernel_rfl
  go_enter Tryd.func3, Tryd.ntmps3
  go_wp2
  rw [← hW1]
  clear hW1 s0 s1 s2
  refine wp_loop_rounds 4 ?_
  rw [rounds_succ]
  go_wp2_with fail
  refine (HF0.out _ (T1.out.stay hB0).1).mono ?_
  rintro e u0 ⟨y0, i0, n0, a0, b0, p0, E, rfl, hR, hu0⟩
  have hU0 := hB0.trans (hu0.mono hB0.size)
  rcases hR.cases with ⟨hE, rfl, rfl, rfl, rfl, rfl, rfl⟩ | ⟨rfl, hO⟩
  · have e1 : (E != 0) = true := by simpa using hE
    have hn := (Below.refl u0.heap.size u0).alloc (Nat.le_refl _) (.cells #[.int .i64 0, .int .i64 0, .int .i64 0, .int .i64 0, .int .i64 0, .int .i64 0] 30)
    have N := Lib.hid (new6 u0 (.int .i64 0) (.int .i64 0) (.int .i64 0) (.int .i64 0) (.int .i64 0) (.int .i64 0) 30)
    have hV := hU0.trans (hn.mono hU0.size)
    clear hE hR
    go_wp2_with fail
    refine (HA.out _ (T1.out.stay hV)).mono ?_
    rintro e w' ⟨rfl, hw⟩
    obtain ⟨m0, m1, m2, m3, m4, m5⟩ := PerAt.stay N.out hw
    have hX := hb0.trans ((hV.trans (hw.mono hV.size)).mono hb0.size)
    go_wp2
    go_ret
    exact ⟨rfl, hX⟩
  have HO0 := Lib.hid hO
  clear hR hO
  obtain ⟨N0, N1, N2, N3, N4, N5⟩ := new6 u0 (.int .i64 y0) (.int .i64 i0) (.int .i64 n0) (.int .i64 a0) (.int .i64 b0) (.int .i64 p0) 30
  have hn := (Below.refl u0.heap.size u0).alloc (Nat.le_refl _) (.cells #[.int .i64 y0, .int .i64 i0, .int .i64 n0, .int .i64 a0, .int .i64 b0, .int .i64 p0] 30)
  obtain ⟨V0, hV0⟩ : ∃ V, V = u0.alloc (.cells #[.int .i64 y0, .int .i64 i0, .int .i64 n0, .int .i64 a0, .int .i64 b0, .int .i64 p0] 30) := ⟨_, rfl⟩
  rw [← hV0] at hn N0 N1 N2 N3 N4 N5
  have hVB0 := hU0.trans (hn.mono hU0.size)
  have hVs0 := hVB0.size
  have hVz : V0.heap.size = u0.heap.size + 1 := by rw [hV0]; simp
  rw [hV0] at N0 N1 N2 N3 N4 N5
  go_wp2_with (at_builtin; rw [← hV0]; refine wpList_append_lies _ rfl _ _ 26 rfl W1.heap.size 30 it _ 6 48 Tryd.underlying26 HI.out.1 HI.out.2.1 HI.out.2.2.1 HI.out.2.2.2 rfl (by omega) (.slice none 0 0) 0 [] rfl (World.ownsRow_nil _ _ _ _) ⟨u0.heap.size + 1, 0, none⟩ 1 1 [.int .i64 y0, .int .i64 i0, .int .i64 n0, .int .i64 a0, .int .i64 b0, .int .i64 p0] rfl rfl (by rw [← hVz]; exact World.news_of_block (cs := #[.int .i64 y0, .int .i64 i0, .int .i64 n0, .int .i64 a0, .int .i64 b0, .int .i64 p0]) (t := 30) (fr := (0, 0)) (heap_alloc_new _ _)) (by simp [Value.oneCell']) (by omega) (by unfold maxLen; omega) (by omega) (by simp; omega) _ rfl ?_; intro g1 c1 w1 hO hG hat hlt)
  have hW1 : Below W1.heap.size W1 w1 := Below.own (hVB0.alloc hVs0 _) hG (by simp; omega) (fun k h => by cases h)
  have O1 : Hid (w1.ownsRow W1.heap.size 30 6 (.slice (some ⟨g1, 0, none⟩) 1 c1) 1 ([] ++ [.int .i64 y0, .int .i64 i0, .int .i64 n0, .int .i64 a0, .int .i64 b0, .int .i64 p0])) := Lib.hid hO
  obtain ⟨x0, x1, x2⟩ := HC.out.stay hW1
  clear N0 N1 N2 N3 N4 N5 hn hG hat hlt hVz hV0 hO
  rw [rounds_succ]
  go_wp2_with fail
  refine (HF1.out _ (T1.out.stay hW1).1).mono ?_
  rintro e u1 ⟨y1, i1, n1, a1, b1, p1, E, rfl, hR, hu1⟩
  have hU1 := hW1.trans (hu1.mono hW1.size)
  have O1u := Lib.hid (own_below O1.out hu1 (Nat.le_refl _))
  rcases hR.cases with ⟨hE, rfl, rfl, rfl, rfl, rfl, rfl⟩ | ⟨rfl, hO⟩
  · have e1 : (E != 0) = true := by simpa using hE
    have hn := (Below.refl u1.heap.size u1).alloc (Nat.le_refl _) (.cells #[.int .i64 0, .int .i64 0, .int .i64 0, .int .i64 0, .int .i64 0, .int .i64 0] 30)
    have N := Lib.hid (new6 u1 (.int .i64 0) (.int .i64 0) (.int .i64 0) (.int .i64 0) (.int .i64 0) (.int .i64 0) 30)
    have hV := hU1.trans (hn.mono hU1.size)
    clear hE hR
    go_wp2_with fail
    refine (HA.out _ (T1.out.stay hV)).mono ?_
    rintro e w' ⟨rfl, hw⟩
    obtain ⟨m0, m1, m2, m3, m4, m5⟩ := PerAt.stay N.out hw
    have hX := hb0.trans ((hV.trans (hw.mono hV.size)).mono hb0.size)
    go_wp2
    go_ret
    exact ⟨rfl, hX⟩
  have HO1 := Lib.hid hO
  clear hR hO
  obtain ⟨N0, N1, N2, N3, N4, N5⟩ := new6 u1 (.int .i64 y1) (.int .i64 i1) (.int .i64 n1) (.int .i64 a1) (.int .i64 b1) (.int .i64 p1) 30
  have hn := (Below.refl u1.heap.size u1).alloc (Nat.le_refl _) (.cells #[.int .i64 y1, .int .i64 i1, .int .i64 n1, .int .i64 a1, .int .i64 b1, .int .i64 p1] 30)
  obtain ⟨V1, hV1⟩ : ∃ V, V = u1.alloc (.cells #[.int .i64 y1, .int .i64 i1, .int .i64 n1, .int .i64 a1, .int .i64 b1, .int .i64 p1] 30) := ⟨_, rfl⟩
  rw [← hV1] at hn N0 N1 N2 N3 N4 N5
  have hVB1 := hU1.trans (hn.mono hU1.size)
  have hVs1 := hVB1.size
  have O1v := Lib.hid (own_below O1u.out hn (Nat.le_refl _))
  have hVz : V1.heap.size = u1.heap.size + 1 := by rw [hV1]; simp
  rw [hV1] at N0 N1 N2 N3 N4 N5
  go_wp2_with (at_builtin; rw [← hV1]; refine wpList_append_lies _ rfl _ _ 26 rfl W1.heap.size 30 it _ 6 48 Tryd.underlying26 HI.out.1 HI.out.2.1 HI.out.2.2.1 HI.out.2.2.2 rfl (by omega) (.slice (some ⟨g1, 0, none⟩) 1 c1) 1 ([] ++ [.int .i64 y0, .int .i64 i0, .int .i64 n0, .int .i64 a0, .int .i64 b0, .int .i64 p0]) rfl (O1v.out.alloc _) ⟨u1.heap.size + 1, 0, none⟩ 1 1 [.int .i64 y1, .int .i64 i1, .int .i64 n1, .int .i64 a1, .int .i64 b1, .int .i64 p1] rfl rfl (by rw [← hVz]; exact World.news_of_block (cs := #[.int .i64 y1, .int .i64 i1, .int .i64 n1, .int .i64 a1, .int .i64 b1, .int .i64 p1]) (t := 30) (fr := (0, 0)) (heap_alloc_new _ _)) (by simp [Value.oneCell']) (by omega) (by unfold maxLen; omega) (by omega) (by simp; omega) _ rfl ?_; intro g2 c2 w2 hO hG hat hlt)
  have hW2 : Below W1.heap.size W1 w2 := Below.own (hVB1.alloc hVs1 _) hG (by simp; omega) (fun k h => (O1v.out.lt _ h).1)
  have O2 : Hid (w2.ownsRow W1.heap.size 30 6 (.slice (some ⟨g2, 0, none⟩) 2 c2) 2 (([] ++ [.int .i64 y0, .int .i64 i0, .int .i64 n0, .int .i64 a0, .int .i64 b0, .int .i64 p0]) ++ [.int .i64 y1, .int .i64 i1, .int .i64 n1, .int .i64 a1, .int .i64 b1, .int .i64 p1])) := Lib.hid hO
  obtain ⟨x0, x1, x2⟩ := HC.out.stay hW2
  clear N0 N1 N2 N3 N4 N5 hn hG hat hlt hVz hV1 hO
  rw [rounds_succ]
  go_wp2_with fail
  refine (HF2.out _ (T1.out.stay hW2).1).mono ?_
  rintro e u2 ⟨y2, i2, n2, a2, b2, p2, E, rfl, hR, hu2⟩
  have hU2 := hW2.trans (hu2.mono hW2.size)
  have O2u := Lib.hid (own_below O2.out hu2 (Nat.le_refl _))
  rcases hR.cases with ⟨hE, rfl, rfl, rfl, rfl, rfl, rfl⟩ | ⟨rfl, hO⟩
  · have e1 : (E != 0) = true := by simpa using hE
    have hn := (Below.refl u2.heap.size u2).alloc (Nat.le_refl _) (.cells #[.int .i64 0, .int .i64 0, .int .i64 0, .int .i64 0, .int .i64 0, .int .i64 0] 30)
    have N := Lib.hid (new6 u2 (.int .i64 0) (.int .i64 0) (.int .i64 0) (.int .i64 0) (.int .i64 0) (.int .i64 0) 30)
    have hV := hU2.trans (hn.mono hU2.size)
    clear hE hR
    go_wp2_with fail
    refine (HA.out _ (T1.out.stay hV)).mono ?_
    rintro e w' ⟨rfl, hw⟩
    obtain ⟨m0, m1, m2, m3, m4, m5⟩ := PerAt.stay N.out hw
    have hX := hb0.trans ((hV.trans (hw.mono hV.size)).mono hb0.size)
    go_wp2
    go_ret
    exact ⟨rfl, hX⟩
  have HO2 := Lib.hid hO
  clear hR hO
  obtain ⟨N0, N1, N2, N3, N4, N5⟩ := new6 u2 (.int .i64 y2) (.int .i64 i2) (.int .i64 n2) (.int .i64 a2) (.int .i64 b2) (.int .i64 p2) 30
  have hn := (Below.refl u2.heap.size u2).alloc (Nat.le_refl _) (.cells #[.int .i64 y2, .int .i64 i2, .int .i64 n2, .int .i64 a2, .int .i64 b2, .int .i64 p2] 30)
  obtain ⟨V2, hV2⟩ : ∃ V, V = u2.alloc (.cells #[.int .i64 y2, .int .i64 i2, .int .i64 n2, .int .i64 a2, .int .i64 b2, .int .i64 p2] 30) := ⟨_, rfl⟩
  rw [← hV2] at hn N0 N1 N2 N3 N4 N5
  have hVB2 := hU2.trans (hn.mono hU2.size)
  have hVs2 := hVB2.size
  have O2v := Lib.hid (own_below O2u.out hn (Nat.le_refl _))
  have hVz : V2.heap.size = u2.heap.size + 1 := by rw [hV2]; simp
  rw [hV2] at N0 N1 N2 N3 N4 N5
  go_wp2_with (at_builtin; rw [← hV2]; refine wpList_append_lies _ rfl _ _ 26 rfl W1.heap.size 30 it _ 6 48 Tryd.underlying26 HI.out.1 HI.out.2.1 HI.out.2.2.1 HI.out.2.2.2 rfl (by omega) (.slice (some ⟨g2, 0, none⟩) 2 c2) 2 (([] ++ [.int .i64 y0, .int .i64 i0, .int .i64 n0, .int .i64 a0, .int .i64 b0, .int .i64 p0]) ++ [.int .i64 y1, .int .i64 i1, .int .i64 n1, .int .i64 a1, .int .i64 b1, .int .i64 p1]) rfl (O2v.out.alloc _) ⟨u2.heap.size + 1, 0, none⟩ 1 1 [.int .i64 y2, .int .i64 i2, .int .i64 n2, .int .i64 a2, .int .i64 b2, .int .i64 p2] rfl rfl (by rw [← hVz]; exact World.news_of_block (cs := #[.int .i64 y2, .int .i64 i2, .int .i64 n2, .int .i64 a2, .int .i64 b2, .int .i64 p2]) (t := 30) (fr := (0, 0)) (heap_alloc_new _ _)) (by simp [Value.oneCell']) (by omega) (by unfold maxLen; omega) (by omega) (by simp; omega) _ rfl ?_; intro g3 c3 w3 hO hG hat hlt)
  have hW3 : Below W1.heap.size W1 w3 := Below.own (hVB2.alloc hVs2 _) hG (by simp; omega) (fun k h => (O2v.out.lt _ h).1)
  have O3 : Hid (w3.ownsRow W1.heap.size 30 6 (.slice (some ⟨g3, 0, none⟩) 3 c3) 3 ((([] ++ [.int .i64 y0, .int .i64 i0, .int .i64 n0, .int .i64 a0, .int .i64 b0, .int .i64 p0]) ++ [.int .i64 y1, .int .i64 i1, .int .i64 n1, .int .i64 a1, .int .i64 b1, .int .i64 p1]) ++ [.int .i64 y2, .int .i64 i2, .int .i64 n2, .int .i64 a2, .int .i64 b2, .int .i64 p2])) := Lib.hid hO
  obtain ⟨x0, x1, x2⟩ := HC.out.stay hW3
  clear N0 N1 N2 N3 N4 N5 hn hG hat hlt hVz hV2 hO
  rw [rounds_succ]
  go_wp2_with fail
  obtain ⟨gg, cc, hv, hg1, hg2, hgc, hcell, hfz⟩ := own_cells O3.out (by omega)
  obtain ⟨rfl, rfl⟩ := slice_inj hv
  have c0 : w3.cell? ⟨g3, 0, none⟩ = some (.int .i64 y0) := hcell 0 _ rfl
  have c1 : w3.cell? ⟨g3, 1, none⟩ = some (.int .i64 i0) := hcell 1 _ rfl
  have c2 : w3.cell? ⟨g3, 2, none⟩ = some (.int .i64 n0) := hcell 2 _ rfl
  have c3 : w3.cell? ⟨g3, 3, none⟩ = some (.int .i64 a0) := hcell 3 _ rfl
  have c4 : w3.cell? ⟨g3, 4, none⟩ = some (.int .i64 b0) := hcell 4 _ rfl
  have c5 : w3.cell? ⟨g3, 5, none⟩ = some (.int .i64 p0) := hcell 5 _ rfl
  have c6 : w3.cell? ⟨g3, 6, none⟩ = some (.int .i64 y1) := hcell 6 _ rfl
  have c7 : w3.cell? ⟨g3, 7, none⟩ = some (.int .i64 i1) := hcell 7 _ rfl
  have c8 : w3.cell? ⟨g3, 8, none⟩ = some (.int .i64 n1) := hcell 8 _ rfl
  have c9 : w3.cell? ⟨g3, 9, none⟩ = some (.int .i64 a1) := hcell 9 _ rfl
  have c10 : w3.cell? ⟨g3, 10, none⟩ = some (.int .i64 b1) := hcell 10 _ rfl
  have c11 : w3.cell? ⟨g3, 11, none⟩ = some (.int .i64 p1) := hcell 11 _ rfl
  have c12 : w3.cell? ⟨g3, 12, none⟩ = some (.int .i64 y2) := hcell 12 _ rfl
  have c13 : w3.cell? ⟨g3, 13, none⟩ = some (.int .i64 i2) := hcell 13 _ rfl
  have c14 : w3.cell? ⟨g3, 14, none⟩ = some (.int .i64 n2) := hcell 14 _ rfl
  have c15 : w3.cell? ⟨g3, 15, none⟩ = some (.int .i64 a2) := hcell 15 _ rfl
  have c16 : w3.cell? ⟨g3, 16, none⟩ = some (.int .i64 b2) := hcell 16 _ rfl
  have c17 : w3.cell? ⟨g3, 17, none⟩ = some (.int .i64 p2) := hcell 17 _ rfl
  obtain ⟨x0, x1, x2⟩ := HC.out.stay hW3
  have KP : Hid (∀ w', Below w3.heap.size w3 w' → (w'.cell? ⟨w.heap.size, 0, none⟩ = some (.int .i64 k) ∧ w'.cell? ⟨w.heap.size, 1, none⟩ = some (.int .i64 f) ∧ w'.cell? ⟨w.heap.size, 2, none⟩ = some (.int .i64 l) ∧ w'.cell? ⟨g3, 0, none⟩ = some (.int .i64 y0) ∧ w'.cell? ⟨g3, 1, none⟩ = some (.int .i64 i0) ∧ w'.cell? ⟨g3, 2, none⟩ = some (.int .i64 n0) ∧ w'.cell? ⟨g3, 3, none⟩ = some (.int .i64 a0) ∧ w'.cell? ⟨g3, 4, none⟩ = some (.int .i64 b0) ∧ w'.cell? ⟨g3, 5, none⟩ = some (.int .i64 p0) ∧ w'.cell? ⟨g3, 6, none⟩ = some (.int .i64 y1) ∧ w'.cell? ⟨g3, 7, none⟩ = some (.int .i64 i1) ∧ w'.cell? ⟨g3, 8, none⟩ = some (.int .i64 n1) ∧ w'.cell? ⟨g3, 9, none⟩ = some (.int .i64 a1) ∧ w'.cell? ⟨g3, 10, none⟩ = some (.int .i64 b1) ∧ w'.cell? ⟨g3, 11, none⟩ = some (.int .i64 p1) ∧ w'.cell? ⟨g3, 12, none⟩ = some (.int .i64 y2) ∧ w'.cell? ⟨g3, 13, none⟩ = some (.int .i64 i2) ∧ w'.cell? ⟨g3, 14, none⟩ = some (.int .i64 n2) ∧ w'.cell? ⟨g3, 15, none⟩ = some (.int .i64 a2) ∧ w'.cell? ⟨g3, 16, none⟩ = some (.int .i64 b2) ∧ w'.cell? ⟨g3, 17, none⟩ = some (.int .i64 p2)) ∧ Below w3.heap.size w3 w') := Lib.hid (fun w' h => ⟨⟨stay h x0, stay h x1, stay h x2, stay h c0, stay h c1, stay h c2, stay h c3, stay h c4, stay h c5, stay h c6, stay h c7, stay h c8, stay h c9, stay h c10, stay h c11, stay h c12, stay h c13, stay h c14, stay h c15, stay h c16, stay h c17⟩, h⟩)
  have hX := hb0.trans (hW3.mono hb0.size)
  have T3 := Lib.hid (T1.out.stay hW3)
  obtain ⟨I0, hI0⟩ := owned_ix HO0.out
  obtain ⟨I1, hI1⟩ := owned_ix HO1.out
  obtain ⟨I2, hI2⟩ := owned_ix HO2.out
  obtain ⟨X, hX1⟩ : ∃ X, X = I1 - I0 := ⟨_, rfl⟩
  obtain ⟨Y, hY1⟩ : ∃ Y, Y = I2 - I1 := ⟨_, rfl⟩
  have bX := cnt_bd HO0.out HO1.out hI0 hI1
  have bY := cnt_bd HO1.out HO2.out hI1 hI2
  rw [← hX1] at bX
  rw [← hY1] at bY
  have H01 := fun W hT => Count_own HO0.out HO1.out hI0 hI1 W hT
  have H12 := fun W hT => Count_own HO1.out HO2.out hI1 hI2 W hT
  have H02 := fun W hT => Count_own HO0.out HO2.out hI0 hI2 W hT
  have H10 := fun W hT => Count_own HO1.out HO0.out hI1 hI0 W hT
  have HL := fun W => Less_any y0 i0 n0 a0 b0 p0 y1 i1 n1 a1 b1 p1 W
  have hord := owned_ord HO0.out HO1.out
  have hixl := ix_lt HO0.out HO1.out hI0 hI1
  have hixr := ix_lt HO1.out HO0.out hI1 hI0
  have hord2 := Lib.hid (owned_ord HO1.out HO0.out)
  have hsame := owned_same HO0.out HO1.out
  rw [← hX1] at H01
  rw [← hY1] at H12
  rw [show I2 - I0 = X + Y by omega] at H02
  rw [show I0 - I1 = -X by omega] at H10
  replace H01 := Lib.hid H01
  replace H12 := Lib.hid H12
  replace H02 := Lib.hid H02
  replace H10 := Lib.hid H10
  have wr1 : IntKind.i64.wrap (X + Y) = X + Y := IntWalk.i64_in _ (by omega)
  have wr2 : IntKind.i64.wrap (-X) = -X := IntWalk.i64_in _ (by omega)
  rw [show (I0 < I1) = (0 < X) by rw [hX1]; exact propext (by omega)] at hixl
  rw [show (I1 < I0) = (X < 0) by rw [hX1]; exact propext (by omega)] at hixr
  replace hord := Lib.hid hord
  replace hixl := Lib.hid hixl
  replace hixr := Lib.hid hixr
  replace hsame := Lib.hid hsame
  clear hcell hfz hg1 hg2 hgc hW3 hW2 hW1 hI0 hI1 hI2 hX1 hY1 bX bY HF0 HF1 HF2 O1 O2 O3 HI j0 j1 j2
  go_region_held3 (fun w' => (w'.cell? ⟨w.heap.size, 0, none⟩ = some (.int .i64 k) ∧ w'.cell? ⟨w.heap.size, 1, none⟩ = some (.int .i64 f) ∧ w'.cell? ⟨w.heap.size, 2, none⟩ = some (.int .i64 l) ∧ w'.cell? ⟨g3, 0, none⟩ = some (.int .i64 y0) ∧ w'.cell? ⟨g3, 1, none⟩ = some (.int .i64 i0) ∧ w'.cell? ⟨g3, 2, none⟩ = some (.int .i64 n0) ∧ w'.cell? ⟨g3, 3, none⟩ = some (.int .i64 a0) ∧ w'.cell? ⟨g3, 4, none⟩ = some (.int .i64 b0) ∧ w'.cell? ⟨g3, 5, none⟩ = some (.int .i64 p0) ∧ w'.cell? ⟨g3, 6, none⟩ = some (.int .i64 y1) ∧ w'.cell? ⟨g3, 7, none⟩ = some (.int .i64 i1) ∧ w'.cell? ⟨g3, 8, none⟩ = some (.int .i64 n1) ∧ w'.cell? ⟨g3, 9, none⟩ = some (.int .i64 a1) ∧ w'.cell? ⟨g3, 10, none⟩ = some (.int .i64 b1) ∧ w'.cell? ⟨g3, 11, none⟩ = some (.int .i64 p1) ∧ w'.cell? ⟨g3, 12, none⟩ = some (.int .i64 y2) ∧ w'.cell? ⟨g3, 13, none⟩ = some (.int .i64 i2) ∧ w'.cell? ⟨g3, 14, none⟩ = some (.int .i64 n2) ∧ w'.cell? ⟨g3, 15, none⟩ = some (.int .i64 a2) ∧ w'.cell? ⟨g3, 16, none⟩ = some (.int .i64 b2) ∧ w'.cell? ⟨g3, 17, none⟩ = some (.int .i64 p2)) ∧ Below w3.heap.size w3 w') (first | with_reducible exact KP.out _ kb_drew | with_reducible exact KP.out _ (Below.drew (by assumption)) | with_reducible exact KP.out _ (by assumption)) (first | (go_at_call 11; first | ((with_reducible refine (H01.out _ (T3.out.stay (And.right (by assumption))).tabs).mono ?_); rintro e za ⟨rfl, hza⟩; have hka : Below w3.heap.size w3 za := kb_call hza (by assumption)) | ((with_reducible refine (H12.out _ (T3.out.stay (And.right (by assumption))).tabs).mono ?_); rintro e zb ⟨rfl, hzb⟩; have hkb : Below w3.heap.size w3 zb := kb_call hzb (by assumption)) | ((with_reducible refine (H02.out _ (T3.out.stay (And.right (by assumption))).tabs).mono ?_); rintro e zc ⟨rfl, hzc⟩; have hkc : Below w3.heap.size w3 zc := kb_call hzc (by assumption))))
  rcases Int.lt_trichotomy X 0 with hs | hs | hs
  · have ha := hixr.out.1 hs
    have hn : ¬ (y0 < y1 ∨ (y0 = y1 ∧ i0 < i1)) := fun h => by have h7 := hord.out.2 h; omega
    rw [show decide (y0 < y1 ∨ (y0 = y1 ∧ i0 < i1)) = false from decide_eq_false hn] at HL
    replace HL := Lib.hid HL
    have q1 : (X == 0) = false := by simp; omega
    have q2 : decide (0 < X) = false := by simp; omega
    have q3 : ¬ 0 < X := by omega
    have q4 : ¬ a0 < a1 := by omega
    have q6 : decide (a0 < a1) = false := by simp; omega
    by_cases hy : y0 = y1
    · have q5 : (y0 == y1) = true := by simpa using hy
      have q7 : (i0 == i1) = false := by
        have : i0 ≠ i1 := fun h => by have h3 := hord2.out.1 ha; omega
        simpa using this
      clear hy hn
      go_wp2
      go_region_held3 (fun w' => (w'.cell? ⟨w.heap.size, 0, none⟩ = some (.int .i64 k) ∧ w'.cell? ⟨w.heap.size, 1, none⟩ = some (.int .i64 f) ∧ w'.cell? ⟨w.heap.size, 2, none⟩ = some (.int .i64 l) ∧ w'.cell? ⟨g3, 0, none⟩ = some (.int .i64 y0) ∧ w'.cell? ⟨g3, 1, none⟩ = some (.int .i64 i0) ∧ w'.cell? ⟨g3, 2, none⟩ = some (.int .i64 n0) ∧ w'.cell? ⟨g3, 3, none⟩ = some (.int .i64 a0) ∧ w'.cell? ⟨g3, 4, none⟩ = some (.int .i64 b0) ∧ w'.cell? ⟨g3, 5, none⟩ = some (.int .i64 p0) ∧ w'.cell? ⟨g3, 6, none⟩ = some (.int .i64 y1) ∧ w'.cell? ⟨g3, 7, none⟩ = some (.int .i64 i1) ∧ w'.cell? ⟨g3, 8, none⟩ = some (.int .i64 n1) ∧ w'.cell? ⟨g3, 9, none⟩ = some (.int .i64 a1) ∧ w'.cell? ⟨g3, 10, none⟩ = some (.int .i64 b1) ∧ w'.cell? ⟨g3, 11, none⟩ = some (.int .i64 p1) ∧ w'.cell? ⟨g3, 12, none⟩ = some (.int .i64 y2) ∧ w'.cell? ⟨g3, 13, none⟩ = some (.int .i64 i2) ∧ w'.cell? ⟨g3, 14, none⟩ = some (.int .i64 n2) ∧ w'.cell? ⟨g3, 15, none⟩ = some (.int .i64 a2) ∧ w'.cell? ⟨g3, 16, none⟩ = some (.int .i64 b2) ∧ w'.cell? ⟨g3, 17, none⟩ = some (.int .i64 p2)) ∧ Below w3.heap.size w3 w') (first | with_reducible exact KP.out _ kb_drew | with_reducible exact KP.out _ (Below.drew (by assumption)) | with_reducible exact KP.out _ (by assumption)) (first | (go_at_call 10; refine (HA.out _ (T3.out.stay (And.right (by assumption)))).mono ?_; rintro e z7 ⟨rfl, hz7⟩; have hk7 : Below w3.heap.size w3 z7 := kb_call hz7 (by assumption)) | (go_at_call 11; ((with_reducible refine (H10.out _ (T3.out.stay (And.right (by assumption))).tabs).mono ?_); rintro e z8 ⟨rfl, hz8⟩; have hk8 : Below w3.heap.size w3 z8 := kb_call hz8 (by assumption))) | (go_at_call 12; refine (HL.out _).mono ?_; rintro e z9 ⟨rfl, hz9⟩; have hk9 : Below w3.heap.size w3 z9 := kb_call hz9 (by assumption)))
      go_wp2
      go_ret
      exact ⟨by simp, hX.trans (Below.mono (by assumption) hX.size)⟩
    · have q5 : (y0 == y1) = false := by simpa using hy
      clear hy hn
      go_wp2
      go_region_held3 (fun w' => (w'.cell? ⟨w.heap.size, 0, none⟩ = some (.int .i64 k) ∧ w'.cell? ⟨w.heap.size, 1, none⟩ = some (.int .i64 f) ∧ w'.cell? ⟨w.heap.size, 2, none⟩ = some (.int .i64 l) ∧ w'.cell? ⟨g3, 0, none⟩ = some (.int .i64 y0) ∧ w'.cell? ⟨g3, 1, none⟩ = some (.int .i64 i0) ∧ w'.cell? ⟨g3, 2, none⟩ = some (.int .i64 n0) ∧ w'.cell? ⟨g3, 3, none⟩ = some (.int .i64 a0) ∧ w'.cell? ⟨g3, 4, none⟩ = some (.int .i64 b0) ∧ w'.cell? ⟨g3, 5, none⟩ = some (.int .i64 p0) ∧ w'.cell? ⟨g3, 6, none⟩ = some (.int .i64 y1) ∧ w'.cell? ⟨g3, 7, none⟩ = some (.int .i64 i1) ∧ w'.cell? ⟨g3, 8, none⟩ = some (.int .i64 n1) ∧ w'.cell? ⟨g3, 9, none⟩ = some (.int .i64 a1) ∧ w'.cell? ⟨g3, 10, none⟩ = some (.int .i64 b1) ∧ w'.cell? ⟨g3, 11, none⟩ = some (.int .i64 p1) ∧ w'.cell? ⟨g3, 12, none⟩ = some (.int .i64 y2) ∧ w'.cell? ⟨g3, 13, none⟩ = some (.int .i64 i2) ∧ w'.cell? ⟨g3, 14, none⟩ = some (.int .i64 n2) ∧ w'.cell? ⟨g3, 15, none⟩ = some (.int .i64 a2) ∧ w'.cell? ⟨g3, 16, none⟩ = some (.int .i64 b2) ∧ w'.cell? ⟨g3, 17, none⟩ = some (.int .i64 p2)) ∧ Below w3.heap.size w3 w') (first | with_reducible exact KP.out _ kb_drew | with_reducible exact KP.out _ (Below.drew (by assumption)) | with_reducible exact KP.out _ (by assumption)) (first | (go_at_call 10; refine (HA.out _ (T3.out.stay (And.right (by assumption)))).mono ?_; rintro e z7 ⟨rfl, hz7⟩; have hk7 : Below w3.heap.size w3 z7 := kb_call hz7 (by assumption)) | (go_at_call 11; ((with_reducible refine (H10.out _ (T3.out.stay (And.right (by assumption))).tabs).mono ?_); rintro e z8 ⟨rfl, hz8⟩; have hk8 : Below w3.heap.size w3 z8 := kb_call hz8 (by assumption))) | (go_at_call 12; refine (HL.out _).mono ?_; rintro e z9 ⟨rfl, hz9⟩; have hk9 : Below w3.heap.size w3 z9 := kb_call hz9 (by assumption)))
      go_wp2
      go_ret
      exact ⟨by simp, hX.trans (Below.mono (by assumption) hX.size)⟩
  · have ha : a0 = a1 := by have h1 := hixl.out; have h2 := hixr.out; omega
    have q1 : (X == 0) = true := by simpa using hs
    have q2 : decide (0 < X) = false := by simp; omega
    have q3 : ¬ 0 < X := by omega
    obtain ⟨rfl, rfl, rfl, -, rfl, rfl⟩ := hsame.out ha
    subst ha
    rw [show decide (y0 < y0 ∨ (y0 = y0 ∧ i0 < i0)) = false from decide_eq_false (by omega)] at HL
    replace HL := Lib.hid HL
    have q4 : ¬ a0 < a0 := by omega
    clear hord hixl hixr hsame hord2 hs
    go_wp2
    go_region_held3 (fun w' => (w'.cell? ⟨w.heap.size, 0, none⟩ = some (.int .i64 k) ∧ w'.cell? ⟨w.heap.size, 1, none⟩ = some (.int .i64 f) ∧ w'.cell? ⟨w.heap.size, 2, none⟩ = some (.int .i64 l) ∧ w'.cell? ⟨g3, 0, none⟩ = some (.int .i64 y0) ∧ w'.cell? ⟨g3, 1, none⟩ = some (.int .i64 i0) ∧ w'.cell? ⟨g3, 2, none⟩ = some (.int .i64 n0) ∧ w'.cell? ⟨g3, 3, none⟩ = some (.int .i64 a0) ∧ w'.cell? ⟨g3, 4, none⟩ = some (.int .i64 b0) ∧ w'.cell? ⟨g3, 5, none⟩ = some (.int .i64 p0) ∧ w'.cell? ⟨g3, 6, none⟩ = some (.int .i64 y0) ∧ w'.cell? ⟨g3, 7, none⟩ = some (.int .i64 i0) ∧ w'.cell? ⟨g3, 8, none⟩ = some (.int .i64 n0) ∧ w'.cell? ⟨g3, 9, none⟩ = some (.int .i64 a0) ∧ w'.cell? ⟨g3, 10, none⟩ = some (.int .i64 b0) ∧ w'.cell? ⟨g3, 11, none⟩ = some (.int .i64 p0) ∧ w'.cell? ⟨g3, 12, none⟩ = some (.int .i64 y2) ∧ w'.cell? ⟨g3, 13, none⟩ = some (.int .i64 i2) ∧ w'.cell? ⟨g3, 14, none⟩ = some (.int .i64 n2) ∧ w'.cell? ⟨g3, 15, none⟩ = some (.int .i64 a2) ∧ w'.cell? ⟨g3, 16, none⟩ = some (.int .i64 b2) ∧ w'.cell? ⟨g3, 17, none⟩ = some (.int .i64 p2)) ∧ Below w3.heap.size w3 w') (first | with_reducible exact KP.out _ kb_drew | with_reducible exact KP.out _ (Below.drew (by assumption)) | with_reducible exact KP.out _ (by assumption)) (first | (go_at_call 10; refine (HA.out _ (T3.out.stay (And.right (by assumption)))).mono ?_; rintro e z7 ⟨rfl, hz7⟩; have hk7 : Below w3.heap.size w3 z7 := kb_call hz7 (by assumption)) | (go_at_call 11; ((with_reducible refine (H10.out _ (T3.out.stay (And.right (by assumption))).tabs).mono ?_); rintro e z8 ⟨rfl, hz8⟩; have hk8 : Below w3.heap.size w3 z8 := kb_call hz8 (by assumption))) | (go_at_call 12; refine (HL.out _).mono ?_; rintro e z9 ⟨rfl, hz9⟩; have hk9 : Below w3.heap.size w3 z9 := kb_call hz9 (by assumption)))
    go_wp2
    go_ret
    exact ⟨by simp, hX.trans (Below.mono (by assumption) hX.size)⟩
  · have ha := hixl.out.1 hs
    have hn := hord.out.1 ha
    rw [show decide (y0 < y1 ∨ (y0 = y1 ∧ i0 < i1)) = true from decide_eq_true hn] at HL
    replace HL := Lib.hid HL
    have q1 : (X == 0) = false := by simp; omega
    have q2 : decide (0 < X) = true := by simp; omega
    have q6 : decide (a0 < a1) = true := by simp; omega
    by_cases hy : y0 = y1
    · have q5 : (y0 == y1) = true := by simpa using hy
      have q7 : (i0 == i1) = false := by
        have : i0 ≠ i1 := by omega
        simpa using this
      clear hy hn
      go_wp2
      go_region_held3 (fun w' => (w'.cell? ⟨w.heap.size, 0, none⟩ = some (.int .i64 k) ∧ w'.cell? ⟨w.heap.size, 1, none⟩ = some (.int .i64 f) ∧ w'.cell? ⟨w.heap.size, 2, none⟩ = some (.int .i64 l) ∧ w'.cell? ⟨g3, 0, none⟩ = some (.int .i64 y0) ∧ w'.cell? ⟨g3, 1, none⟩ = some (.int .i64 i0) ∧ w'.cell? ⟨g3, 2, none⟩ = some (.int .i64 n0) ∧ w'.cell? ⟨g3, 3, none⟩ = some (.int .i64 a0) ∧ w'.cell? ⟨g3, 4, none⟩ = some (.int .i64 b0) ∧ w'.cell? ⟨g3, 5, none⟩ = some (.int .i64 p0) ∧ w'.cell? ⟨g3, 6, none⟩ = some (.int .i64 y1) ∧ w'.cell? ⟨g3, 7, none⟩ = some (.int .i64 i1) ∧ w'.cell? ⟨g3, 8, none⟩ = some (.int .i64 n1) ∧ w'.cell? ⟨g3, 9, none⟩ = some (.int .i64 a1) ∧ w'.cell? ⟨g3, 10, none⟩ = some (.int .i64 b1) ∧ w'.cell? ⟨g3, 11, none⟩ = some (.int .i64 p1) ∧ w'.cell? ⟨g3, 12, none⟩ = some (.int .i64 y2) ∧ w'.cell? ⟨g3, 13, none⟩ = some (.int .i64 i2) ∧ w'.cell? ⟨g3, 14, none⟩ = some (.int .i64 n2) ∧ w'.cell? ⟨g3, 15, none⟩ = some (.int .i64 a2) ∧ w'.cell? ⟨g3, 16, none⟩ = some (.int .i64 b2) ∧ w'.cell? ⟨g3, 17, none⟩ = some (.int .i64 p2)) ∧ Below w3.heap.size w3 w') (first | with_reducible exact KP.out _ kb_drew | with_reducible exact KP.out _ (Below.drew (by assumption)) | with_reducible exact KP.out _ (by assumption)) (first | (go_at_call 10; refine (HA.out _ (T3.out.stay (And.right (by assumption)))).mono ?_; rintro e z7 ⟨rfl, hz7⟩; have hk7 : Below w3.heap.size w3 z7 := kb_call hz7 (by assumption)) | (go_at_call 11; ((with_reducible refine (H10.out _ (T3.out.stay (And.right (by assumption))).tabs).mono ?_); rintro e z8 ⟨rfl, hz8⟩; have hk8 : Below w3.heap.size w3 z8 := kb_call hz8 (by assumption))) | (go_at_call 12; refine (HL.out _).mono ?_; rintro e z9 ⟨rfl, hz9⟩; have hk9 : Below w3.heap.size w3 z9 := kb_call hz9 (by assumption)))
      go_wp2
      go_ret
      exact ⟨by simp, hX.trans (Below.mono (by assumption) hX.size)⟩
    · have q5 : (y0 == y1) = false := by simpa using hy
      clear hy hn
      go_wp2
      go_region_held3 (fun w' => (w'.cell? ⟨w.heap.size, 0, none⟩ = some (.int .i64 k) ∧ w'.cell? ⟨w.heap.size, 1, none⟩ = some (.int .i64 f) ∧ w'.cell? ⟨w.heap.size, 2, none⟩ = some (.int .i64 l) ∧ w'.cell? ⟨g3, 0, none⟩ = some (.int .i64 y0) ∧ w'.cell? ⟨g3, 1, none⟩ = some (.int .i64 i0) ∧ w'.cell? ⟨g3, 2, none⟩ = some (.int .i64 n0) ∧ w'.cell? ⟨g3, 3, none⟩ = some (.int .i64 a0) ∧ w'.cell? ⟨g3, 4, none⟩ = some (.int .i64 b0) ∧ w'.cell? ⟨g3, 5, none⟩ = some (.int .i64 p0) ∧ w'.cell? ⟨g3, 6, none⟩ = some (.int .i64 y1) ∧ w'.cell? ⟨g3, 7, none⟩ = some (.int .i64 i1) ∧ w'.cell? ⟨g3, 8, none⟩ = some (.int .i64 n1) ∧ w'.cell? ⟨g3, 9, none⟩ = some (.int .i64 a1) ∧ w'.cell? ⟨g3, 10, none⟩ = some (.int .i64 b1) ∧ w'.cell? ⟨g3, 11, none⟩ = some (.int .i64 p1) ∧ w'.cell? ⟨g3, 12, none⟩ = some (.int .i64 y2) ∧ w'.cell? ⟨g3, 13, none⟩ = some (.int .i64 i2) ∧ w'.cell? ⟨g3, 14, none⟩ = some (.int .i64 n2) ∧ w'.cell? ⟨g3, 15, none⟩ = some (.int .i64 a2) ∧ w'.cell? ⟨g3, 16, none⟩ = some (.int .i64 b2) ∧ w'.cell? ⟨g3, 17, none⟩ = some (.int .i64 p2)) ∧ Below w3.heap.size w3 w') (first | with_reducible exact KP.out _ kb_drew | with_reducible exact KP.out _ (Below.drew (by assumption)) | with_reducible exact KP.out _ (by assumption)) (first | (go_at_call 10; refine (HA.out _ (T3.out.stay (And.right (by assumption)))).mono ?_; rintro e z7 ⟨rfl, hz7⟩; have hk7 : Below w3.heap.size w3 z7 := kb_call hz7 (by assumption)) | (go_at_call 11; ((with_reducible refine (H10.out _ (T3.out.stay (And.right (by assumption))).tabs).mono ?_); rintro e z8 ⟨rfl, hz8⟩; have hk8 : Below w3.heap.size w3 z8 := kb_call hz8 (by assumption))) | (go_at_call 12; refine (HL.out _).mono ?_; rintro e z9 ⟨rfl, hz9⟩; have hk9 : Below w3.heap.size w3 z9 := kb_call hz9 (by assumption)))
      go_wp2
      go_ret
      exact ⟨by simp, hX.trans (Below.mono (by assumption) hX.size)⟩
end Go.Proofs.YtmejkpkejohmaaaDoor
