/-
  What is proved: Fold tells one answer in every world; and what the two lists of the statement LeaveJoins are told. Conditions: as each says.
-/
import Derived.Test.YtpejdbnphjheeaaDoorLvX
namespace Go.Proofs.YtpejdbnphjheeaaDoor
open Go Go.RowKit Go.Proofs Go.Proofs.YtpejdbnphjheeaaDoor.Cv
set_option linter.unusedVariables false

theorem year_ex {u : Int} (hu : inB u = true) : ∃ Y, yearIn u Y := by
  obtain ⟨Yu, mu, du, u1, u2, u3, u4, -⟩ := toY hu
  exact ⟨Yu, u1, u2, u3, u4⟩
def Told (Y0 Ca Ex u : Int) (n : Nat) (D G T : Nat → Int) (x0 x1 x2 x3 r : Int) : Prop :=
  ∀ (W : World) p cp, n ≤ cp → MvIn W p n D G T → Len W → Calls Tryd.prog 10 #[.agg #[.int .i64 Y0, .int .i64 Ca, .int .i64 Ex], .int .i64 u, .slice p n cp] W fun e w' => e = .returned (.tuple #[.agg #[.int .i64 x0, .int .i64 x1, .int .i64 x2, .int .i64 x3], .int .i64 r]) ∧ Below W.heap.size W w'
theorem fold_det (Y0 Ca Ex u : Int) (n : Nat) (D G T : Nat → Int) (hn : n ≤ 900) : ∃ x0 x1 x2 x3 r, Told Y0 Ca Ex u n D G T x0 x1 x2 x3 r ∧
    ((checkV Y0 Ca Ex u n D G T = 0 ∧ r = 0 ∧ ∀ Y, yearIn u Y → ∀ B, B = yearsE Y0 Ca Ex u (mvL n D G T) (Y + 1 - Y0).toNat → x0 = B.gr ∧ x1 = B.ta ∧ x2 = B.lo ∧ x3 = B.fr + B.ca) ∨ (checkV Y0 Ca Ex u n D G T ≠ 0 ∧ r ≠ 0)) := by
  by_cases hv : checkV Y0 Ca Ex u n D G T = 0
  · obtain ⟨Y, hY⟩ := year_ex (check_zero hv).2.1
    refine ⟨_, _, _, _, 0, fun W p cp hcp hM hL => fold_is hv hY W hn hcp hM hL, .inl ⟨hv, rfl, fun Z hZ B hB => ?_⟩⟩
    rw [hB, year_one hZ hY]
    exact ⟨rfl, rfl, rfl, rfl⟩
  · refine ⟨0, 0, 0, 0, checkV Y0 Ca Ex u n D G T, fun W p cp hcp hM hL => ?_, .inr ⟨hv, hv⟩⟩
    refine (fold_any Y0 Ca Ex u p n cp D G T W hn hcp hM hL).mono ?_
    rintro e w' ⟨hb, ⟨-, h⟩ | ⟨h, -⟩⟩
    · exact ⟨h, hb⟩
    · exact absurd h hv
theorem joins_fold (Y0 Ca Ex u : Int) {n k : Nat} {D G T : Nat → Int} (hn : n ≤ 800) (hk : k < n) (hg : 0 ≤ G k) : ∃ x0 x1 x2 x3 r y0 y1 y2 y3 r1 z0 z1 z2 z3 r2, Told Y0 Ca Ex u n D G T x0 x1 x2 x3 r ∧ Told Y0 Ca Ex u (n + 1) (jD D k) (jG G k) (jT T k) y0 y1 y2 y3 r1 ∧ Told Y0 Ca Ex u n D (putA G k (G k / 2)) T z0 z1 z2 z3 r2 ∧
    ((r != 0) = true ∨ ((r != 0) = false ∧ (r1 == 0) = true ∧ (r2 == 0) = true ∧ y0 = x0 ∧ y1 = x1 ∧ y2 = x2 ∧ y3 = x3 ∧ decide (z3 ≤ x3) = true ∧ decide (z2 ≤ x2) = true)) := by
  obtain ⟨x0, x1, x2, x3, r, h0, h0'⟩ := fold_det Y0 Ca Ex u n D G T (by omega)
  obtain ⟨y0, y1, y2, y3, r1, h1, h1'⟩ := fold_det Y0 Ca Ex u (n + 1) (jD D k) (jG G k) (jT T k) (by omega)
  obtain ⟨z0, z1, z2, z3, r2, h2, h2'⟩ := fold_det Y0 Ca Ex u n D (putA G k (G k / 2)) T (by omega)
  refine ⟨x0, x1, x2, x3, r, y0, y1, y2, y3, r1, z0, z1, z2, z3, r2, h0, h1, h2, ?_⟩
  rcases h0' with ⟨hv, rfl, e0⟩ | ⟨-, hr⟩
  · rcases h1' with ⟨-, rfl, e1⟩ | ⟨hv1, -⟩
    · rcases h2' with ⟨-, rfl, e2⟩ | ⟨hv2, -⟩
      · obtain ⟨Y, hY⟩ := year_ex (check_zero hv).2.1
        obtain ⟨a0, a1, a2, a3⟩ := e0 Y hY _ rfl
        obtain ⟨b0, b1, b2, b3⟩ := e1 Y hY _ (years_join hv hk _).symm
        obtain ⟨c0, c1, c2, c3⟩ := e2 Y hY _ rfl
        have hl := years_less (Y0 := Y0) (Ca := Ca) (Ex := Ex) (u := u) (n := n) (k := k) (D := D) (G := G) (T := T) hk hg (Y + 1 - Y0).toNat
        unfold LeB at hl
        refine .inr ⟨rfl, rfl, rfl, b0.trans a0.symm, b1.trans a1.symm, b2.trans a2.symm, b3.trans a3.symm, decide_eq_true (by omega), decide_eq_true (by omega)⟩
      · exact absurd (l_check hk hv) hv2
    · exact absurd (j_check hk (by omega) hv) hv1
  · exact .inl (by simpa using hr)
theorem RowM.storeG {w : World} {g n : Nat} {D G T : Nat → Int} (h : RowM w g n D G T) (p : Nat) (x : Int) : RowM (w.setCell ⟨g, p * 3 + 1, none⟩ (.int .i64 x)) g n D (putA G p x) T := by
  refine ⟨by simp [World.setCell]; exact h.1, fun j hj => ⟨?_, fun i => by rw [World.frozen?_setCell]; exact (h.2 j hj).2 i⟩⟩
  obtain ⟨a, b, c⟩ := (h.2 j hj).1
  have a1 := cell_set (u := .int .i64 0) (i := p * 3 + 1) (v := .int .i64 x) a
  have b1 := cell_set (u := .int .i64 0) (i := p * 3 + 1) (v := .int .i64 x) b
  have c1 := cell_set (u := .int .i64 0) (i := p * 3 + 1) (v := .int .i64 x) c
  rw [if_neg (by omega)] at a1 c1
  refine ⟨a1, ?_, c1⟩
  unfold putA
  by_cases e : j = p
  · subst e; rw [if_pos rfl] at b1 ⊢; exact b1
  · rw [if_neg (by omega)] at b1; rw [if_neg e]; exact b1

end Go.Proofs.YtpejdbnphjheeaaDoor
