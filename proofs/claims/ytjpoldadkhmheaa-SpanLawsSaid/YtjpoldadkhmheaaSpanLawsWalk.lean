/-
  What is proved: SpanLaws returns true for all that it may be handed. Conditions: what came in lies in memory as the frame says.
-/
import Derived.Test.YtjpoldadkhmheaaSpW
import Derived.Test.YtjpoldadkhmheaaSpO
import Derived.Test.YtjpoldadkhmheaaFrameP
namespace Go.Proofs.Ytjpoldadkhmheaa
open Go Go.RowKit Go.Proofs

set_option linter.unusedVariables false
set_option maxHeartbeats 8000000 in
set_option maxRecDepth 100000 in
theorem walkSpanLaws (p : Option Addr) (n cp : Nat) (L : List Sp) (q : Option Addr) (m cq : Nat) (M : List Sp) (r : Option Addr) (l cr : Nat) (N : List Sp) (w : World) (hp : SpansArg w p n L) (hq : SpansArg w q m M) (hr : SpansArg w r l N) :
    Calls Try.prog 9 #[.slice p n cp, .slice q m cq, .slice r l cr] w fun e w' => e = .returned (.bool true) ∧ Below w.heap.size w w' := by
  obtain ⟨rfl, hsp, h64p, -⟩ := hp
  have Hp := Lib.hid hsp
  have Ap := Lib.hid h64p
  obtain ⟨rfl, hsq, h64q, -⟩ := hq
  have Hq := Lib.hid hsq
  have Aq := Lib.hid h64q
  obtain ⟨rfl, hsr, h64r, -⟩ := hr
  have Hr := Lib.hid hsr
  have Ar := Lib.hid h64r
  clear hsp h64p hsq h64q hsr h64r
  by_cases hbig : 20 < L.length ∨ 20 < M.length ∨ 20 < N.length
  · have h2 : ((20 : Int) < (L.length : Int)) ∨ (¬ (20 : Int) < (L.length : Int) ∧ (20 : Int) < (M.length : Int)) ∨ (¬ (20 : Int) < (L.length : Int) ∧ ¬ (20 : Int) < (M.length : Int) ∧ (20 : Int) < (N.length : Int)) := by omega
    clear hbig
    rcases h2 with d0 | ⟨d0, d1⟩ | ⟨d0, d1, d2⟩
    all_goals
      go_enter Try.func9, Try.ntmps9
      go_wp2_with fail
      refine (awake_any _).mono ?_
      rintro e w1 ⟨rfl, hb1⟩
      go_wp2
      go_ret
      exact ⟨rfl, hb1⟩
  have n0 : L.length ≤ 20 := by omega
  have n1 : M.length ≤ 20 := by omega
  have n2 : N.length ≤ 20 := by omega
  clear hbig
  have d0 : ¬ (20 : Int) < (L.length : Int) := by omega
  have d1 : ¬ (20 : Int) < (M.length : Int) := by omega
  have d2 : ¬ (20 : Int) < (N.length : Int) := by omega
  go_enter Try.func9, Try.ntmps9
  go_wp2_with fail
  refine (awake_any _).mono ?_
  rintro e w0 ⟨rfl, hb0⟩
  have G0 := Lib.hid (Hp.out.below hb0 (Nat.le_refl _))
  go_wp2_with fail
  refine (Of_set p cp L w0 (by omega) Ap.out G0.out).mono ?_
  rintro e v0 ⟨u, rfl, ⟨K0, p0, c0, rfl, k0⟩, hc0, -⟩
  have HK0 := Lib.hid k0
  clear k0
  have hd0 := hb0.trans (hc0.mono hb0.size)
  have G1 := Lib.hid (Hq.out.below hd0 (Nat.le_refl _))
  go_wp2_with fail
  refine (Of_set q cq M v0 (by omega) Aq.out G1.out).mono ?_
  rintro e v1 ⟨u, rfl, ⟨K1, p1, c1, rfl, k1⟩, hc1, -⟩
  have HK1 := Lib.hid k1
  clear k1
  have hd1 := hd0.trans (hc1.mono hd0.size)
  have G2 := Lib.hid (Hr.out.below hd1 (Nat.le_refl _))
  go_wp2_with fail
  refine (Of_set r cr N v1 (by omega) Ar.out G2.out).mono ?_
  rintro e v2 ⟨u, rfl, ⟨K2, p2, c2, rfl, k2⟩, hc2, -⟩
  have HK2 := Lib.hid k2
  clear k2
  have hd2 := hd1.trans (hc2.mono hd1.size)
  obtain ⟨W4, hW4⟩ : ∃ W4, W4 = (((v2.alloc (.cells #[.slice p0 K0.length c0] 26)).alloc (.cells #[.slice p1 K1.length c1] 26)).alloc (.cells #[.slice p2 K2.length c2] 26)) := ⟨_, rfl⟩
  have hb4 : Below v2.heap.size v2 W4 := by rw [hW4]; exact ((((Below.refl _ _).alloc (Nat.le_refl _) _).alloc (by simp <;> omega) _).alloc (by simp <;> omega) _)
  have x0 : W4.cell? ⟨v2.heap.size, 0, none⟩ = some (.slice p0 K0.length c0) := by rw [hW4]; rw [World.cell?_alloc_lt _ _ _ (by simp <;> omega)]; rw [World.cell?_alloc_lt _ _ _ (by simp <;> omega)]; exact new_cell _ _ _
  have hz1 : (v2.alloc (.cells #[.slice p0 K0.length c0] 26)).heap.size = v2.heap.size + 1 := by simp
  have x1 : W4.cell? ⟨v2.heap.size + 1, 0, none⟩ = some (.slice p1 K1.length c1) := by rw [hW4]; rw [World.cell?_alloc_lt _ _ _ (by simp <;> omega)]; rw [← hz1]; exact new_cell _ _ _
  have hz2 : ((v2.alloc (.cells #[.slice p0 K0.length c0] 26)).alloc (.cells #[.slice p1 K1.length c1] 26)).heap.size = v2.heap.size + 1 + 1 := by simp
  have x2 : W4.cell? ⟨v2.heap.size + 1 + 1, 0, none⟩ = some (.slice p2 K2.length c2) := by rw [hW4]; rw [← hz2]; exact new_cell _ _ _
  have hb7 := hd2.trans (hb4.mono hd2.size)
  have S0 : Hid (IsSet W4 (2 * L.length) (fun d => hasB L d) (.agg #[.slice p0 K0.length c0])) := Lib.hid (IsSet.below ⟨K0, p0, c0, rfl, HK0.out⟩ (hc1.trans ((hc2.trans (hb4.mono hc2.size)).mono hc1.size)) (Nat.le_refl _))
  have S1 : Hid (IsSet W4 (2 * M.length) (fun d => hasB M d) (.agg #[.slice p1 K1.length c1])) := Lib.hid (IsSet.below ⟨K1, p1, c1, rfl, HK1.out⟩ (hc2.trans (hb4.mono hc2.size)) (Nat.le_refl _))
  have S2 : Hid (IsSet W4 (2 * N.length) (fun d => hasB N d) (.agg #[.slice p2 K2.length c2])) := Lib.hid (IsSet.below ⟨K2, p2, c2, rfl, HK2.out⟩ hb4 (Nat.le_refl _))
  clear HK0 hc0 hd0 G0 HK1 hc1 hd1 G1 HK2 hc2 hd2 G2 hb4 hz1 hz2
  go_wp2
  rw [← hW4]
  clear hW4
  go_region_held3 (fun w' => (w'.cell? ⟨v2.heap.size, 0, none⟩ = some (.slice p0 K0.length c0) ∧ w'.cell? ⟨v2.heap.size + 1, 0, none⟩ = some (.slice p1 K1.length c1) ∧ w'.cell? ⟨v2.heap.size + 1 + 1, 0, none⟩ = some (.slice p2 K2.length c2)) ∧ Below W4.heap.size W4 w') (first | exact kp3 x0 x1 x2 kb_drew | exact kp3 x0 x1 x2 (by assumption)) (first | (go_at_call 16; refine (UnionK (by first | assumption | exact IsSet.below (by assumption) (by assumption) (Nat.le_refl _) | exact S0.out.kp (by assumption) | exact S1.out.kp (by assumption) | exact S2.out.kp (by assumption)) (by first | assumption | exact IsSet.below (by assumption) (by assumption) (Nat.le_refl _) | exact S0.out.kp (by assumption) | exact S1.out.kp (by assumption) | exact S2.out.kp (by assumption)) (by omega) (by omega)).mono ?_; rintro e wx ⟨vx, rfl, hsx, hbx, -⟩; have hkx : Below W4.heap.size W4 wx := kb_call hbx (by assumption); try (have hlx := SpansIn.below (by assumption) hbx (Nat.le_refl _))) | (go_at_call 18; refine (MeetK (by first | assumption | exact IsSet.below (by assumption) (by assumption) (Nat.le_refl _) | exact S0.out.kp (by assumption) | exact S1.out.kp (by assumption) | exact S2.out.kp (by assumption)) (by first | assumption | exact IsSet.below (by assumption) (by assumption) (Nat.le_refl _) | exact S0.out.kp (by assumption) | exact S1.out.kp (by assumption) | exact S2.out.kp (by assumption)) (by omega) (by omega)).mono ?_; rintro e wx ⟨vx, rfl, hsx, hbx, -⟩; have hkx : Below W4.heap.size W4 wx := kb_call hbx (by assumption); try (have hlx := SpansIn.below (by assumption) hbx (Nat.le_refl _))) | (go_at_call 19; refine (MinusK (by first | assumption | exact IsSet.below (by assumption) (by assumption) (Nat.le_refl _) | exact S0.out.kp (by assumption) | exact S1.out.kp (by assumption) | exact S2.out.kp (by assumption)) (by first | assumption | exact IsSet.below (by assumption) (by assumption) (Nat.le_refl _) | exact S0.out.kp (by assumption) | exact S1.out.kp (by assumption) | exact S2.out.kp (by assumption)) (by omega) (by omega)).mono ?_; rintro e wx ⟨vx, rfl, hsx, hbx, -⟩; have hkx : Below W4.heap.size W4 wx := kb_call hbx (by assumption); try (have hlx := SpansIn.below (by assumption) hbx (Nat.le_refl _))) | (go_at_call 15; refine (AllK (by first | assumption | exact IsSet.below (by assumption) (by assumption) (Nat.le_refl _) | exact S0.out.kp (by assumption) | exact S1.out.kp (by assumption) | exact S2.out.kp (by assumption)) (by omega)).mono ?_; rintro e wx ⟨Kx, qx, cx, rfl, kx, mx, ax, lx, sx, hbx⟩; have hkx : Below W4.heap.size W4 wx := kb_call hbx (by assumption); try (have hlx := SpansIn.below (by assumption) hbx (Nat.le_refl _))) | (go_at_call 14; refine (SameK (by assumption) (by assumption) (by omega) (canon_eq (by assumption) (by assumption) (by assumption) (by assumption) (fun d => by (try dsimp only); cases hasB L d <;> cases hasB M d <;> cases hasB N d <;> rfl))).mono ?_; rintro e wx ⟨rfl, hbx⟩; have hkx : Below W4.heap.size W4 wx := kb_call hbx (by assumption)))
  go_wp2
  go_ret
  exact ⟨rfl, hb7.trans (Below.mono (by assumption) hb7.size)⟩

end Go.Proofs.Ytjpoldadkhmheaa
