/-
  What is proved: the walk of the statement ShareSplits: the call returns true. Conditions: none.
-/
import Derived.Test.YtkhjlpjhmdmfiaaShareL
import Derived.Test.YtkhjlpjhmdmfiaaShareR
import Derived.Test.YtkhjlpjhmdmfiaaShareW
namespace Go.Proofs.Ytkhjlpjhmdmfiaa
open Go Go.RowKit Go.Proofs

set_option maxHeartbeats 1000000 in
theorem walkShareSplits (t : Int) (p : Option Addr) (n cp : Nat) (zs : List Int) (w : World) (_ : (Lit.int .i64 t).wf = true) (hrow : IsRow .i64 w p n cp zs) : Calls Try.prog 4 #[.int .i64 t, .slice p n cp] w fun e w' => e = .returned (.bool true) ∧ Below w.heap.size w w' := by
  obtain ⟨x, hx, hm, -⟩ := wts_of hrow
  unfold maxLen at hm
  clear hrow
  have HX := Lib.hid hx
  clear hx
  by_cases h100 : 100 < n
  · have d1 : (100 : Int) < (n : Int) := by omega
    go_enter Try.func4, Try.ntmps4
    go_wp2_with fail
    refine (awake_any _).mono ?_
    rintro e w1 ⟨rfl, hb⟩
    go_wp2
    go_ret
    exact ⟨rfl, hb⟩
  have d1 : ¬ (100 : Int) < (n : Int) := by omega
  by_cases he : splitE t n x = 0
  · have H1 := Lib.hid (Split_ok t p n cp x w HX.out he)
    go_enter Try.func4, Try.ntmps4
    go_wp2_with fail
    refine (H1.out).mono ?_
    rintro e w1 ⟨g, f, rfl, x1, x2, x3, x4, x5⟩
    have H2 := Lib.hid (refSplit_ok t p n cp x f w1 (HX.out.below (Nat.le_refl _) x5) he x3)
    have X4 := Lib.hid x4
    clear x3 x4 H1
    go_wp2_with fail
    refine (H2.out).mono ?_
    rintro e w2 ⟨g', c', rfl, y1, y2, y3, y4⟩
    have Y3 := Lib.hid y3
    clear y3 H2
    go_wp2_with fail
    refine (awake_any _).mono ?_
    rintro e w3 ⟨rfl, hb3⟩
    have S1 := Lib.hid ((Wts.of_row (X4.out.below y4 x2)).below (Nat.le_refl _) hb3)
    have S2 := Lib.hid ((Wts.of_row Y3.out).below (Nat.le_refl _) hb3)
    have hbA : Below w.heap.size w w3 := (x5.trans (y4.mono x5.size)).trans (hb3.mono (Nat.le_trans x5.size y4.size))
    clear X4 Y3
    go_wp2_with fail
    refine (same_yes _ _ n n c' _ w3 (by omega) S1.out S2.out).mono ?_
    rintro e w4 ⟨rfl, m, rfl⟩
    go_wp2
    go_ret
    exact ⟨rfl, below_drewN hbA m⟩
  · have H1 := Lib.hid (Split_err t p n cp x w (by omega) HX.out he)
    have H2 := Lib.hid (refSplit_err t p n cp x w (by omega) HX.out he)
    generalize splitE t n x = E at H1 H2 he
    have dE : (E == E) = true := by simp
    go_enter Try.func4, Try.ntmps4
    go_wp2_with fail
    refine (H1.out).mono ?_
    rintro e w1 ⟨rfl, hw⟩
    rw [hw]
    clear hw
    go_wp2_with fail
    refine (H2.out).mono ?_
    rintro e w2 ⟨rfl, hw⟩
    rw [hw]
    clear hw
    go_wp2_with fail
    refine (awake_any _).mono ?_
    rintro e w3 ⟨rfl, hb3⟩
    go_wp2_with fail
    refine (same_yes none none 0 0 0 (fun _ => 0) w3 (by omega) (.inl rfl) (.inl rfl)).mono ?_
    rintro e w4 ⟨rfl, m, rfl⟩
    go_wp2
    go_ret
    exact ⟨rfl, below_drewN hb3 m⟩

end Go.Proofs.Ytkhjlpjhmdmfiaa
