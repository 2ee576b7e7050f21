/-
  What is proved: the contract of the closure by which a year's acts are sorted, and what is kept of the row of acts (a day, a function) that is sorted. Conditions: as each says.
-/
import Derived.Test.YtpejdbnphjheeaaDoorRows
import Derived.Test.YtpejdbnphjheeaaDoorSsMath
import Derived.WalkKit
import Derived.WalkSpells
import Derived.WalkLawsBesides
import Derived.Lib.Hide
import Derived.Below
import Derived.Laws.OwnMore
import Derived.Deep.QuietTactic
import Derived.BigQuiet
import Derived.IntWalk
import Derived.StillTailTactics
import Derived.Shelf.SlSortCmp.QuietGrown
import Derived.Laws.EntriesVeiled
namespace Go.Proofs.YtpejdbnphjheeaaDoor.Ss
open Go Go.RowKit Go.Proofs Go.Sort

theorem nan_any (x : Int) (w : World) : Calls Tryd.prog 50 #[.int .i64 x] w fun e w' => e = .returned (.bool false) ∧ w = w' := by
  go_enter Tryd.func50, Tryd.ntmps50
  go_wp2
  go_ret
  exact ⟨rfl, rfl⟩
/-- What Compare tells. -/
def cmpI (x y : Int) : Int := if x < y then -1 else if y < x then 1 else 0
def cmpV (x y : Nat) : Int := if x < y then -1 else if y < x then 1 else 0
theorem compare_any (x y : Int) (w : World) : Calls Tryd.prog 43 #[.int .i64 x, .int .i64 y] w fun e w' => e = .returned (.int .i64 (cmpI x y)) ∧ w' = w := by
  by_cases h : x < y
  · rw [show cmpI x y = -1 by simp [cmpI, h]]
    go_enter Tryd.func43, Tryd.ntmps43
    go_wp2_with (go_at_call 50; refine (nan_any _ _).mono ?_; rintro e w' ⟨rfl, rfl⟩)
    go_ret
    exact ⟨rfl, rfl⟩
  · by_cases h2 : y < x
    · rw [show cmpI x y = 1 by simp [cmpI, h, h2]]
      go_enter Tryd.func43, Tryd.ntmps43
      go_wp2_with (go_at_call 50; refine (nan_any _ _).mono ?_; rintro e w' ⟨rfl, rfl⟩)
      go_ret
      exact ⟨rfl, rfl⟩
    · rw [show cmpI x y = 0 by simp [cmpI, h, h2]]
      go_enter Tryd.func43, Tryd.ntmps43
      go_wp2_with (go_at_call 50; refine (nan_any _ _).mono ?_; rintro e w' ⟨rfl, rfl⟩)
      go_ret
      exact ⟨rfl, rfl⟩

/-- The elements: a day, and a function with what it has caught. -/
structure Els where
  d : Nat → Int
  G : Nat → Nat
  B : Nat → Array Value
/-- What the closure is asked: that it tells by the ranks r. -/
def CmpOk (n : Nat) (K : Els) (r : Nat → Nat) : Prop := ∀ (x y : Nat) (W : World), x < n → y < n →
  Calls Tryd.prog 42 #[.agg #[.int .i64 (K.d x), .func (.func (K.G x)) #[] (K.B x)], .agg #[.int .i64 (K.d y), .func (.func (K.G y)) #[] (K.B y)]] W fun e w' => e = .returned (.int .i64 (cmpV (r y) (r x))) ∧ ∃ q os', w' = grow (W.drewN q) os'

theorem closure_any (dx dy : Int) (gx gy : Nat) (bx b_y : Array Value) (w : World) :
    Calls Tryd.prog 42 #[.agg #[.int .i64 dx, .func (.func gx) #[] bx], .agg #[.int .i64 dy, .func (.func gy) #[] b_y]] w fun e w' => e = .returned (.int .i64 (cmpI dx dy)) ∧ ∃ q os', w' = grow (w.drewN q) os' := by
  go_enter Tryd.func42, Tryd.ntmps42
  go_wp2_with (go_at_call 43; refine (compare_any _ _ _).mono ?_; rintro e w' ⟨rfl, rfl⟩)
  go_ret
  exact ⟨rfl, 0, _, by rw [alloc_eq_grow, alloc_eq_grow, grow_grow]; rfl⟩
/-- Ranks: the later the day, the lower. -/
def rank (K : Els) (x : Nat) : Nat := (1000000 - K.d x).toNat
theorem cmpOk (n : Nat) (K : Els) (h : ∀ x, x < n → K.d x ≤ 1000000) : CmpOk n K (rank K) := by
  intro x y W hx hy
  have e : cmpI (K.d x) (K.d y) = cmpV (rank K y) (rank K x) := by
    have h1 := h x hx
    have h2 := h y hy
    unfold cmpI cmpV rank
    by_cases c : K.d x < K.d y
    · rw [if_pos c, if_pos (by omega)]
    · by_cases c2 : K.d y < K.d x
      · rw [if_neg c, if_pos c2, if_neg (by omega), if_pos (by omega)]
      · rw [if_neg c, if_neg c2, if_neg (by omega), if_neg (by omega)]
  rw [← e]
  exact closure_any _ _ _ _ _ _ _

/-- The row that is sorted. -/
def Row (w : World) (g n : Nat) (K : Els) (f : Nat → Nat) : Prop := g < w.heap.size ∧ ∀ j, j < n →
  w.cell? ⟨g, j * 2, none⟩ = some (.int .i64 (K.d (f j))) ∧ w.cell? ⟨g, j * 2 + 1, none⟩ = some (.func (.func (K.G (f j))) #[] (K.B (f j))) ∧ w.frozen? ⟨g, j * 2, none⟩ = false ∧ w.frozen? ⟨g, j * 2 + 1, none⟩ = false
theorem Row.grown {w : World} {g n : Nat} {K : Els} {f : Nat → Nat} (h : Row w g n K f) (k : Nat) (os : Array Obj) : Row (grow (w.drewN k) os) g n K f := by
  have hg : g < (w.drewN k).heap.size := h.1
  refine ⟨by rw [size_grow]; omega, fun j hj => ?_⟩
  rw [cell?_grow _ _ _ hg, cell?_grow _ _ _ hg, frozen?_grow _ _ _ hg, frozen?_grow _ _ _ hg]
  exact h.2 j hj
/-- An element's cells, in every world of the class that a comparison passes through. -/
theorem Row.cells {w : World} {g n : Nat} {K : Els} {f : Nat → Nat} (h : Row w g n K f) (j : Nat) (hj : j < n) (x : Nat) (hx : x = f j) :
    (∀ k os, (grow (w.drewN k) os).cell? ⟨g, j * 2, none⟩ = some (.int .i64 (K.d x))) ∧ (∀ k os, (grow (w.drewN k) os).cell? ⟨g, j * 2 + 1, none⟩ = some (.func (.func (K.G x)) #[] (K.B x))) := by
  subst hx
  exact ⟨fun k os => cell_grown h.1 (h.2 j hj).1 k os, fun k os => cell_grown h.1 (h.2 j hj).2.1 k os⟩
/-- But for the block g all that was is as it was. -/
structure But (g : Nat) (w w' : World) : Prop where
  os : w'.os = w.os
  tape : w'.tape = w.tape
  output : w'.output = w.output
  size : w.heap.size ≤ w'.heap.size
  block : ∀ k, k < w.heap.size → k ≠ g → w'.heap[k]? = w.heap[k]?
theorem But.refl (g : Nat) (w : World) : But g w w := ⟨rfl, rfl, rfl, Nat.le_refl _, fun _ _ _ => rfl⟩
theorem But.trans {g : Nat} {a b c : World} (h : But g a b) (k : But g b c) : But g a c :=
  ⟨k.os.trans h.os, k.tape.trans h.tape, k.output.trans h.output, Nat.le_trans h.size k.size, fun i hi hn => (k.block i (Nat.lt_of_lt_of_le hi h.size) hn).trans (h.block i hi hn)⟩
theorem But.drew {g : Nat} {a w : World} (h : But g a w) : But g a w.drew := ⟨h.os, h.tape, h.output, h.size, h.block⟩
theorem But.setCell {g : Nat} {a w : World} (h : But g a w) (o : Nat) (u : Value) : But g a (w.setCell ⟨g, o, none⟩ u) :=
  h.trans ⟨rfl, rfl, rfl, by simp [World.setCell], fun k _ hn => Below.heap_setCell _ _ _ _ hn⟩
theorem But.cell {g : Nat} {w w' : World} (h : But g w w') {p : Addr} (hp : p.block < w.heap.size) (hn : p.block ≠ g) : w'.cell? p = w.cell? p := by
  simp only [World.cell?, h.block _ hp hn]
theorem But.below {g : Nat} {w w' : World} (h : But g w w') {B : Nat} (hB : B ≤ g) (hs : B ≤ w.heap.size) : Below B w w' := ⟨h.os, h.tape, h.output, h.size, fun k hk => h.block k (by omega) (by omega)⟩
theorem below_drewN {g : Nat} {a w : World} (h : But g a w) (n : Nat) : But g a (w.drewN n) := ⟨h.os, h.tape, h.output, h.size, h.block⟩
theorem Row.drewN {w : World} {g n : Nat} {K : Els} {f : Nat → Nat} (h : Row w g n K f) (k : Nat) : Row (w.drewN k) g n K f := h
theorem below_grown {g : Nat} {a w : World} (h : But g a w) (_ : g ≤ w.heap.size) (k : Nat) (os : Array Obj) : But g a (grow (w.drewN k) os) :=
  h.trans ⟨rfl, rfl, rfl, by rw [size_grow]; exact Nat.le_add_right _ _, fun i hi _ => heap_grow_old _ _ (by show i < w.heap.size; omega)⟩
/-- An element put at a place. -/
def putE (w : World) (g p : Nat) (K : Els) (v : Nat) : World := (w.setCell ⟨g, p * 2, none⟩ (.int .i64 (K.d v))).setCell ⟨g, p * 2 + 1, none⟩ (.func (.func (K.G v)) #[] (K.B v))
theorem Row.store {w : World} {g n : Nat} {K : Els} {f : Nat → Nat} (h : Row w g n K f) (p v : Nat) : Row (putE w g p K v) g n K (putF f p v) := by
  unfold putE
  refine ⟨by simp [World.setCell]; exact h.1, fun j hj => ?_⟩
  have hj0 := h.2 j hj
  rw [World.frozen?_setCell, World.frozen?_setCell, World.frozen?_setCell, World.frozen?_setCell]
  unfold putF
  by_cases e : j = p
  · subst e
    rw [if_pos rfl]
    refine ⟨?_, ?_, hj0.2.2⟩
    · rw [World.cell?_setCell_other _ _ _ _ (by intro h; injection h; omega)]
      exact World.cell?_setCell_same w _ _ hj0.1
    · have hx : (w.setCell ⟨g, j * 2, none⟩ (.int .i64 (K.d v))).cell? ⟨g, j * 2 + 1, none⟩ = some (.func (.func (K.G (f j))) #[] (K.B (f j))) := by
        rw [World.cell?_setCell_other _ _ _ _ (by intro h; injection h; omega)]
        exact hj0.2.1
      exact World.cell?_setCell_same _ _ _ hx
  · rw [if_neg e]
    refine ⟨?_, ?_, hj0.2.2⟩
    · rw [World.cell?_setCell_other _ _ _ _ (by intro h; injection h; omega), World.cell?_setCell_other _ _ _ _ (by intro h; injection h; omega)]
      exact hj0.1
    · rw [World.cell?_setCell_other _ _ _ _ (by intro h; injection h; omega), World.cell?_setCell_other _ _ _ _ (by intro h; injection h; omega)]
      exact hj0.2.1
theorem Row.swap {w : World} {g n : Nat} {K : Els} {f : Nat → Nat} (h : Row w g n K f) (i j : Nat) : Row (putE (putE w g i K (f j)) g j K (f i)) g n K (swp f i j) := by
  have := (h.store i (f j)).store j (f i)
  rwa [put_put] at this
/-- The facts that an exchange of two elements wants, store by store. -/
theorem exch {w : World} {g n : Nat} {K : Els} {f : Nat → Nat} (h : Row w g n K f) (i j x y : Nat) (hi : i < n) (hj : j < n) (hne : i ≠ j) (hx : x = f i) (hy : y = f j) :
    (w.setCell ⟨g, i * 2, none⟩ (.int .i64 (K.d y))).cell? ⟨g, i * 2 + 1, none⟩ = some (.func (.func (K.G x)) #[] (K.B x)) ∧
    (putE w g i K y).cell? ⟨g, j * 2, none⟩ = some (.int .i64 (K.d y)) ∧
    ((putE w g i K y).setCell ⟨g, j * 2, none⟩ (.int .i64 (K.d x))).cell? ⟨g, j * 2 + 1, none⟩ = some (.func (.func (K.G y)) #[] (K.B y)) := by
  subst hx; subst hy
  have a := h.2 i hi
  have b := h.2 j hj
  unfold putE
  refine ⟨?_, ?_, ?_⟩
  · rw [World.cell?_setCell_other _ _ _ _ (by intro h; injection h; omega)]; exact a.2.1
  · rw [World.cell?_setCell_other _ _ _ _ (by intro h; injection h; omega), World.cell?_setCell_other _ _ _ _ (by intro h; injection h; omega)]; exact b.1
  · rw [World.cell?_setCell_other _ _ _ _ (by intro h; injection h; omega), World.cell?_setCell_other _ _ _ _ (by intro h; injection h; omega), World.cell?_setCell_other _ _ _ _ (by intro h; injection h; omega)]; exact b.2.1
theorem putE_below {a w : World} {g : Nat} (h : But g a w) (_ : g ≤ g) (p v : Nat) (K : Els) : But g a (putE w g p K v) := (h.setCell _ _).setCell _ _

end Go.Proofs.YtpejdbnphjheeaaDoor.Ss
