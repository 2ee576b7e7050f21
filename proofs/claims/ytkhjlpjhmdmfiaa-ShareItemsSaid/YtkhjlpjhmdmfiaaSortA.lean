/-
  What is proved: the contracts of cmp.isNaN and cmp.Compare at numbers of 64 bits without sign, and of the closure by which share.byRests compares two places. Conditions: as each says.
-/
import Derived.Test.YtkhjlpjhmdmfiaaRows
import Derived.Test.YtkhjlpjhmdmfiaaSortMath
import Derived.WalkKit
import Derived.WalkSpells
import Derived.WalkLawsBesides
import Derived.Lib.Hide
import Derived.Below
import Derived.Laws.OwnMore
import Derived.Deep.QuietTactic
import Derived.BigQuiet
import Derived.IntWalk
import Derived.StillTailTactics
namespace Go.Proofs.Ytkhjlpjhmdmfiaa
open Go Go.RowKit Go.Proofs

theorem below_drewN {B : Nat} {a w : World} (h : Below B a w) (n : Nat) : Below B a (w.drewN n) := ⟨h.os, h.tape, h.output, h.size, h.block⟩

theorem nan_any (x : Int) (w : World) : Calls Try.prog 38 #[.int .u64 x] w fun e w' => e = .returned (.bool false) ∧ w = w' := by
  go_enter Try.func38, Try.ntmps38
  go_wp2
  go_ret
  exact ⟨rfl, rfl⟩
/-- What Compare tells. -/
def cmpV (x y : Nat) : Int := if x < y then -1 else if y < x then 1 else 0
theorem compare_any (x y : Nat) (w : World) : Calls Try.prog 35 #[.int .u64 x, .int .u64 y] w fun e w' => e = .returned (.int .i64 (cmpV x y)) ∧ w' = w := by
  by_cases h : x < y
  · rw [show cmpV x y = -1 by simp [cmpV, h]]
    go_enter Try.func35, Try.ntmps35
    go_wp2_with (go_at_call 38; refine (nan_any _ _).mono ?_; rintro e w' ⟨rfl, rfl⟩)
    go_ret
    exact ⟨rfl, rfl⟩
  · by_cases h2 : y < x
    · rw [show cmpV x y = 1 by simp [cmpV, h, h2]]
      go_enter Try.func35, Try.ntmps35
      go_wp2_with (go_at_call 38; refine (nan_any _ _).mono ?_; rintro e w' ⟨rfl, rfl⟩)
      go_ret
      exact ⟨rfl, rfl⟩
    · rw [show cmpV x y = 0 by simp [cmpV, h, h2]]
      go_enter Try.func35, Try.ntmps35
      go_wp2_with (go_at_call 38; refine (nan_any _ _).mono ?_; rintro e w' ⟨rfl, rfl⟩)
      go_ret
      exact ⟨rfl, rfl⟩

/-- The rests lie where the closure finds them. -/
def Rests (w : World) (bx rb n cp : Nat) (r : Nat → Nat) : Prop := w.cell? ⟨bx, 0, none⟩ = some (.slice (some ⟨rb, 0, none⟩) n cp) ∧ ∀ j, j < n → w.cell? ⟨rb, j, none⟩ = some (.int .u64 (r j : Int))
theorem Rests.below {w w' : World} {B bx rb n cp : Nat} {r : Nat → Nat} (h : Rests w bx rb n cp r) (hb : Below B w w') (h1 : bx < B) (h2 : rb < B) : Rests w' bx rb n cp r :=
  ⟨(hb.cell (p := ⟨bx, 0, none⟩) h1).trans h.1, fun j hj => (hb.cell (p := ⟨rb, j, none⟩) h2).trans (h.2 j hj)⟩
theorem Rests.drewN {w : World} {bx rb n cp : Nat} {r : Nat → Nat} (h : Rests w bx rb n cp r) (k : Nat) : Rests (w.drewN k) bx rb n cp r := h

/-- The closure as a value. -/
def cmpF (bx : Nat) : Value := .func (.func 34) #[] #[.pointer (some ⟨bx, 0, none⟩)]

theorem closure_any (x y : Nat) (bx rb n cp : Nat) (r : Nat → Nat) (w : World) (h : Rests w bx rb n cp r) (hx : x < n) (hy : y < n) :
    Calls Try.prog 34 #[.int .i64 x, .int .i64 y, .pointer (some ⟨bx, 0, none⟩)] w fun e w' => e = .returned (.int .i64 (cmpV (r y) (r x))) ∧ ∃ q, w' = w.drewN q := by
  have c0 := h.1
  have c1 := h.2 x hx
  have c2 := h.2 y hy
  generalize r x = rx at c1 ⊢
  generalize r y = ry at c2 ⊢
  have i1 : (x : Int) < (n : Int) := by omega
  have i2 : (y : Int) < (n : Int) := by omega
  go_enter Try.func34, Try.ntmps34
  go_wp2
  go_quiet ((go_at_call 35; exact Calls.quiet_of_same (compare_any _ _ _)))
  go_wp2
  go_ret
  exact ⟨rfl, _, rfl⟩

/-- The row that is sorted. -/
def Row (w : World) (g n : Nat) (f : Nat → Nat) : Prop := ∀ j, j < n → w.cell? ⟨g, j, none⟩ = some (.int .i64 (f j : Int)) ∧ w.frozen? ⟨g, j, none⟩ = false
theorem Row.drewN {w : World} {g n : Nat} {f : Nat → Nat} (h : Row w g n f) (k : Nat) : Row (w.drewN k) g n f := h
theorem Row.store {w : World} {g n : Nat} {f : Nat → Nat} (h : Row w g n f) (p v : Nat) : Row (w.setCell ⟨g, p, none⟩ (.int .i64 (v : Int))) g n (putF f p v) := by
  intro j hj
  refine ⟨?_, ?_⟩
  · unfold putF
    by_cases e : j = p
    · subst e
      rw [if_pos rfl]
      exact World.cell?_setCell_same w _ _ (h j hj).1
    · rw [if_neg e, World.cell?_setCell_other w _ _ _ (by intro h; injection h; omega)]
      exact (h j hj).1
  · rw [World.frozen?_setCell]; exact (h j hj).2
theorem Row.swap {w : World} {g n : Nat} {f : Nat → Nat} (h : Row w g n f) (i j : Nat) : Row ((w.setCell ⟨g, i, none⟩ (.int .i64 (f j : Int))).setCell ⟨g, j, none⟩ (.int .i64 (f i : Int))) g n (swp f i j) := by
  have := (h.store i (f j)).store j (f i)
  rwa [put_put] at this

end Go.Proofs.Ytkhjlpjhmdmfiaa
