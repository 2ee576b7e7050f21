/-
  What is proved: plain facts on a balance of leave (what a year's turn, the loss of what was carried, and a move make of it), and the contracts of leave's balance.expired, .turned, .moved, .account, and of the closures by which a year's acts do them. Conditions: as each says.
-/
import Derived.Test.YtpejdbnphjheeaaDoorLvBb
import Derived.Shelf.SlSortCmp.QuietGrown
import Derived.Lib.MinMax
import Derived.Laws.EntriesVeiled
import Derived.Sort.Grow
namespace Go.Proofs.YtpejdbnphjheeaaDoor
open Go Go.RowKit Go.Proofs Go.Proofs.YtpejdbnphjheeaaDoor.Cv

structure Bal where
  fr : Int
  ca : Int
  gr : Int
  ta : Int
  lo : Int
@[ext] theorem Bal.ext' {a b : Bal} (h1 : a.fr = b.fr) (h2 : a.ca = b.ca) (h3 : a.gr = b.gr) (h4 : a.ta = b.ta) (h5 : a.lo = b.lo) : a = b := by
  cases a; cases b; simp at *; exact ⟨h1, h2, h3, h4, h5⟩
def Bal.exp (b : Bal) : Bal := ⟨b.fr, 0, b.gr, b.ta, b.lo + b.ca⟩
def Bal.turn (most : Int) (b : Bal) : Bal := ⟨b.fr - max 0 b.fr, min (max 0 b.fr) most, b.gr, b.ta, b.lo + b.ca + (max 0 b.fr - min (max 0 b.fr) most)⟩
def Bal.mv (g t : Int) (b : Bal) : Bal := ⟨b.fr + (g - (t - min b.ca t)), b.ca - min b.ca t, b.gr + g, b.ta + t, b.lo⟩
def Bal.v (b : Bal) : Value := .agg #[.int .i64 b.fr, .int .i64 b.ca, .int .i64 b.gr, .int .i64 b.ta, .int .i64 b.lo]
/-- What is kept: nothing is far from 0. -/
structure Inv (N : Int) (b : Bal) : Prop where
  ca : 0 ≤ b.ca
  lo : 0 ≤ b.lo
  ta : 0 ≤ b.ta
  taN : b.ta ≤ N
  grN : b.gr ≤ N
  sum : b.gr = b.ta + b.lo + (b.fr + b.ca)
  kept : b.lo + b.ca ≤ b.gr
theorem Inv.zero {N : Int} (h : 0 ≤ N) : Inv N ⟨0, 0, 0, 0, 0⟩ := ⟨by simp, by simp, by simp, h, h, by simp, by simp⟩
theorem Inv.exp {N : Int} {b : Bal} (h : Inv N b) : Inv N b.exp := by
  obtain ⟨h1, h2, h3, h4, h5, h6, h7⟩ := h
  constructor <;> simp only [Bal.exp] <;> omega
theorem Inv.turn {N : Int} {b : Bal} (h : Inv N b) {c : Int} (hc : 0 ≤ c) : Inv N (b.turn c) := by
  obtain ⟨h1, h2, h3, h4, h5, h6, h7⟩ := h
  constructor <;> simp only [Bal.turn] <;> omega
theorem Inv.mv {N : Int} {b : Bal} (h : Inv N b) {g t : Int} (hg : 0 ≤ g) (ht : 0 ≤ t) : Inv (N + max g t) (b.mv g t) := by
  obtain ⟨h1, h2, h3, h4, h5, h6, h7⟩ := h
  constructor <;> simp only [Bal.mv] <;> omega
theorem Inv.mono {N M : Int} {b : Bal} (h : Inv N b) (hM : N ≤ M) : Inv M b := ⟨h.ca, h.lo, h.ta, by have := h.taN; omega, by have := h.grN; omega, h.sum, h.kept⟩
theorem Inv.bd {N : Int} {b : Bal} (h : Inv N b) : -N ≤ b.fr ∧ b.fr ≤ N ∧ 0 ≤ b.ca ∧ b.ca ≤ N ∧ 0 ≤ b.gr ∧ b.gr ≤ N ∧ 0 ≤ b.ta ∧ b.ta ≤ N ∧ 0 ≤ b.lo ∧ b.lo ≤ N := by
  obtain ⟨h1, h2, h3, h4, h5, h6, h7⟩ := h
  omega

theorem two_new {w : World} (a b : Obj) : Below w.heap.size w ((w.alloc a).alloc b) := ((Below.refl _ _).alloc (Nat.le_refl _) _).alloc (by simp) _
theorem exp_raw {N : Int} (hN : N ≤ 1000000000000) (fr ca gr ta lo : Int) (b3 : 0 ≤ ca) (b4 : ca ≤ N) (b9 : 0 ≤ lo) (b10 : lo ≤ N) (w : World) : Calls Tryd.prog 38 #[.agg #[.int .i64 fr, .int .i64 ca, .int .i64 gr, .int .i64 ta, .int .i64 lo]] w fun e w' => e = .returned (.agg #[.int .i64 fr, .int .i64 0, .int .i64 gr, .int .i64 ta, .int .i64 (lo + ca)]) ∧ w' = (w.alloc (.cells #[.int .i64 fr, .int .i64 0, .int .i64 gr, .int .i64 ta, .int .i64 (lo + ca)] 50)).alloc (.cells #[.int .i64 fr, .int .i64 0, .int .i64 gr, .int .i64 ta, .int .i64 (lo + ca)] 50) := by
  go_enter Tryd.func38, Tryd.ntmps38
  go_wp2
  exact bodyPost_ret (v := .agg #[.int .i64 fr, .int .i64 0, .int .i64 gr, .int .i64 ta, .int .i64 (lo + ca)]) (by simp [results, Tryd.results38, go_sem]) rfl ⟨rfl, rfl⟩
/-- What a function of balances does: it makes this of it, and new blocks alone. -/
def DoesB (v : Value) (e : Ending) (w w' : World) : Prop := e = .returned v ∧ ∃ os, w' = Go.Sort.grow w os
theorem exp_any {N : Int} {b : Bal} (h : Inv N b) (hN : N ≤ 1000000000000) (w : World) : Calls Tryd.prog 38 #[b.v] w fun e w' => DoesB b.exp.v e w w' := by
  have hb := h.bd
  refine (exp_raw hN b.fr b.ca b.gr b.ta b.lo (by omega) (by omega) (by omega) (by omega) w).mono ?_
  rintro e w' ⟨rfl, rfl⟩
  exact ⟨rfl, _, by rw [Go.Sort.alloc_eq_grow, Go.Sort.alloc_eq_grow, Go.Sort.grow_grow]⟩

set_option maxHeartbeats 1000000 in
theorem turn_any {N : Int} {b : Bal} (h : Inv N b) (hN : N ≤ 1000000000000) (c : Int) (c1 : 0 ≤ c) (c2 : c ≤ 1000000) (w : World) : Calls Tryd.prog 37 #[b.v, .int .i64 c] w fun e w' => DoesB (b.turn c).v e w w' := by
  obtain ⟨b1, b2, b3, b4, b5, b6, b7, b8, b9, b10⟩ := h.bd
  obtain ⟨fr, ca, gr, ta, lo⟩ := b
  simp only at b1 b2 b3 b4 b5 b6 b7 b8 b9 b10
  clear h
  show Calls _ _ #[.agg #[.int .i64 fr, .int .i64 ca, .int .i64 gr, .int .i64 ta, .int .i64 lo], .int .i64 c] w fun e w' => DoesB (.agg #[.int .i64 (fr - max 0 fr), .int .i64 (min (max 0 fr) c), .int .i64 gr, .int .i64 ta, .int .i64 (lo + ca + (max 0 fr - min (max 0 fr) c))]) e w w'
  obtain ⟨L, hL⟩ : ∃ L, max 0 fr = L := ⟨_, rfl⟩
  have hL0 : 0 ≤ L := by omega
  have hL1 : L ≤ N := by omega
  obtain ⟨M, hM⟩ : ∃ M, min L c = M := ⟨_, rfl⟩
  have hM0 : 0 ≤ M := by omega
  have hM1 : M ≤ L := by omega
  rw [hL, hM]
  go_enter Tryd.func37, Tryd.ntmps37
  go_wp2_with (go_at_call 38; refine (exp_raw hN _ _ _ _ _ (by omega) (by omega) (by omega) (by omega) _).mono ?_; rintro e w' ⟨rfl, rfl⟩)
  exact bodyPost_ret (v := .agg #[.int .i64 (fr - L), .int .i64 M, .int .i64 gr, .int .i64 ta, .int .i64 (lo + ca + (L - M))]) (by simp [results, Tryd.results37, go_sem]) rfl ⟨rfl, _, by rw [Go.Sort.alloc_eq_grow, Go.Sort.alloc_eq_grow, Go.Sort.alloc_eq_grow, Go.Sort.alloc_eq_grow, Go.Sort.grow_grow, Go.Sort.grow_grow, Go.Sort.grow_grow]⟩

set_option maxHeartbeats 1000000 in
theorem mv_any {N : Int} {b : Bal} (h : Inv N b) (hN : N ≤ 1000000000000) (d g t : Int) (g1 : 0 ≤ g) (g2 : g ≤ 1000000) (t1 : 0 ≤ t) (t2 : t ≤ 1000000) (w : World) : Calls Tryd.prog 40 #[b.v, .agg #[.int .i64 d, .int .i64 g, .int .i64 t]] w fun e w' => DoesB (b.mv g t).v e w w' := by
  obtain ⟨b1, b2, b3, b4, b5, b6, b7, b8, b9, b10⟩ := h.bd
  obtain ⟨fr, ca, gr, ta, lo⟩ := b
  simp only at b1 b2 b3 b4 b5 b6 b7 b8 b9 b10
  clear h
  show Calls _ _ #[.agg #[.int .i64 fr, .int .i64 ca, .int .i64 gr, .int .i64 ta, .int .i64 lo], .agg #[.int .i64 d, .int .i64 g, .int .i64 t]] w fun e w' => DoesB (.agg #[.int .i64 (fr + (g - (t - min ca t))), .int .i64 (ca - min ca t), .int .i64 (gr + g), .int .i64 (ta + t), .int .i64 lo]) e w w'
  obtain ⟨M, hM⟩ : ∃ M, min ca t = M := ⟨_, rfl⟩
  have hM0 : 0 ≤ M := by omega
  have hM1 : M ≤ t := by omega
  rw [hM]
  go_enter Tryd.func40, Tryd.ntmps40
  go_wp2
  exact bodyPost_ret (v := .agg #[.int .i64 (fr + (g - (t - M))), .int .i64 (ca - M), .int .i64 (gr + g), .int .i64 (ta + t), .int .i64 lo]) (by simp [results, Tryd.results40, go_sem]) rfl ⟨rfl, _, by rw [Go.Sort.alloc_eq_grow, Go.Sort.alloc_eq_grow, Go.Sort.alloc_eq_grow, Go.Sort.grow_grow, Go.Sort.grow_grow]⟩

theorem account_any {N : Int} {b : Bal} (h : Inv N b) (hN : N ≤ 1000000000000) (w : World) : Calls Tryd.prog 22 #[b.v] w fun e w' => DoesB (.agg #[.int .i64 b.gr, .int .i64 b.ta, .int .i64 b.lo, .int .i64 (b.fr + b.ca)]) e w w' := by
  obtain ⟨b1, b2, b3, b4, b5, b6, b7, b8, b9, b10⟩ := h.bd
  obtain ⟨fr, ca, gr, ta, lo⟩ := b
  simp only at b1 b2 b3 b4 b5 b6 b7 b8 b9 b10
  clear h
  show Calls _ _ #[.agg #[.int .i64 fr, .int .i64 ca, .int .i64 gr, .int .i64 ta, .int .i64 lo]] w fun e w' => DoesB (.agg #[.int .i64 gr, .int .i64 ta, .int .i64 lo, .int .i64 (fr + ca)]) e w w'
  go_enter Tryd.func22, Tryd.ntmps22
  go_wp2
  exact bodyPost_ret (v := .agg #[.int .i64 gr, .int .i64 ta, .int .i64 lo, .int .i64 (fr + ca)]) (by simp [results, Tryd.results22, go_sem]) rfl ⟨rfl, _, by rw [Go.Sort.alloc_eq_grow, Go.Sort.alloc_eq_grow, Go.Sort.grow_grow]⟩

/-! The closures. -/
theorem getB {v : Value} {e : Ending} {w w' : World} (h : DoesB v e w w') : e = .returned v ∧ ∃ os, w' = Go.Sort.grow w os := h
theorem grown_cell {w : World} {os : Array Obj} {g i : Nat} {v : Value} (h : w.cell? ⟨g, i, none⟩ = some v) : (Go.Sort.grow w os).cell? ⟨g, i, none⟩ = some v := by
  rw [Go.Sort.cell?_grow _ _ _ (World.block_lt_of_cell? w _ h)]; exact h
theorem grown_frozen {w : World} {os : Array Obj} {g i : Nat} {v : Value} (hc : w.cell? ⟨g, i, none⟩ = some v) (h : w.frozen? ⟨g, i, none⟩ = false) : (Go.Sort.grow w os).frozen? ⟨g, i, none⟩ = false := by
  rw [Go.Sort.frozen?_grow _ _ _ (World.block_lt_of_cell? w _ hc)]; exact h
theorem kept5 {w W : World} {X : Obj} {v0 v1 v2 v3 v4 : Value} {t : TypeId} {os : Array Obj} (h : W = Go.Sort.grow ((w.alloc X).alloc (.cells #[v0, v1, v2, v3, v4] t)) os) :
    W.cell? ⟨w.heap.size + 1, 0, none⟩ = some v0 ∧ W.cell? ⟨w.heap.size + 1, 1, none⟩ = some v1 ∧ W.cell? ⟨w.heap.size + 1, 2, none⟩ = some v2 ∧ W.cell? ⟨w.heap.size + 1, 3, none⟩ = some v3 ∧ W.cell? ⟨w.heap.size + 1, 4, none⟩ = some v4 ∧
    W.frozen? ⟨w.heap.size + 1, 0, none⟩ = false ∧ W.frozen? ⟨w.heap.size + 1, 1, none⟩ = false ∧ W.frozen? ⟨w.heap.size + 1, 2, none⟩ = false ∧ W.frozen? ⟨w.heap.size + 1, 3, none⟩ = false ∧ W.frozen? ⟨w.heap.size + 1, 4, none⟩ = false ∧ Below w.heap.size w W := by
  subst h
  have hs : w.heap.size + 1 < ((w.alloc X).alloc (.cells #[v0, v1, v2, v3, v4] t)).heap.size := by simp
  rw [Go.Sort.cell?_grow _ _ _ hs, Go.Sort.cell?_grow _ _ _ hs, Go.Sort.cell?_grow _ _ _ hs, Go.Sort.cell?_grow _ _ _ hs, Go.Sort.cell?_grow _ _ _ hs, Go.Sort.frozen?_grow _ _ _ hs, Go.Sort.frozen?_grow _ _ _ hs, Go.Sort.frozen?_grow _ _ _ hs, Go.Sort.frozen?_grow _ _ _ hs, Go.Sort.frozen?_grow _ _ _ hs]
  refine ⟨by simp, by simp, by simp, by simp, by simp, by simp, by simp, by simp, by simp, by simp, ?_⟩
  exact (two_new _ _).trans ⟨rfl, rfl, rfl, by rw [Go.Sort.size_grow]; exact Nat.le_add_right _ _, fun i hi => Go.Sort.heap_grow_old _ _ (by simp; omega)⟩
set_option maxHeartbeats 1000000 in
theorem turnF_any {N : Int} {b : Bal} (h : Inv N b) (hN : N ≤ 1000000000000) (c : Int) (c1 : 0 ≤ c) (c2 : c ≤ 1000000) (g : Nat) (w : World) (hc : w.cell? ⟨g, 1, none⟩ = some (.int .i64 c)) : Calls Tryd.prog 36 #[b.v, .pointer (some ⟨g, 0, none⟩)] w fun e w' => e = .returned (b.turn c).v ∧ Below w.heap.size w w' := by
  have H := Lib.hid (fun W => turn_any h hN c c1 c2 W)
  have hg := World.block_lt_of_cell? w _ hc
  unfold Bal.v at H ⊢
  generalize (b.turn c).fr = x0, (b.turn c).ca = x1, (b.turn c).gr = x2, (b.turn c).ta = x3, (b.turn c).lo = x4 at H ⊢
  clear h
  go_enter Tryd.func36, Tryd.ntmps36
  go_wp2_with fail
  refine (H.out _).mono ?_
  rintro e w' ⟨rfl, os, hw⟩
  obtain ⟨k0, k1, k2, k3, k4, f0, f1, f2, f3, f4, hb⟩ := kept5 hw
  clear hw
  go_wp2
  exact bodyPost_ret (v := .agg #[.int .i64 x0, .int .i64 x1, .int .i64 x2, .int .i64 x3, .int .i64 x4]) (by simp [results, Tryd.results36, go_sem, k0, k1, k2, k3, k4]) rfl ⟨rfl, ((((hb.setCell (by simp) _).setCell (by simp) _).setCell (by simp) _).setCell (by simp) _).setCell (by simp) _⟩

set_option maxHeartbeats 1000000 in
theorem mvF_any {N : Int} {b : Bal} (h : Inv N b) (hN : N ≤ 1000000000000) (d gq t : Int) (g1 : 0 ≤ gq) (g2 : gq ≤ 1000000) (t1 : 0 ≤ t) (t2 : t ≤ 1000000) (g : Nat) (w : World) (hc : w.cell? ⟨g, 0, none⟩ = some (.int .i64 d)) (hc1 : w.cell? ⟨g, 1, none⟩ = some (.int .i64 gq)) (hc2 : w.cell? ⟨g, 2, none⟩ = some (.int .i64 t)) : Calls Tryd.prog 39 #[b.v, .pointer (some ⟨g, 0, none⟩)] w fun e w' => e = .returned (b.mv gq t).v ∧ Below w.heap.size w w' := by
  have H := Lib.hid (fun W => mv_any h hN d gq t g1 g2 t1 t2 W)
  have hg := World.block_lt_of_cell? w _ hc
  unfold Bal.v at H ⊢
  generalize (b.mv gq t).fr = x0, (b.mv gq t).ca = x1, (b.mv gq t).gr = x2, (b.mv gq t).ta = x3, (b.mv gq t).lo = x4 at H ⊢
  clear h
  go_enter Tryd.func39, Tryd.ntmps39
  go_wp2_with fail
  refine (H.out _).mono ?_
  rintro e w' ⟨rfl, os, hw⟩
  obtain ⟨k0, k1, k2, k3, k4, f0, f1, f2, f3, f4, hb⟩ := kept5 hw
  clear hw
  go_wp2
  exact bodyPost_ret (v := .agg #[.int .i64 x0, .int .i64 x1, .int .i64 x2, .int .i64 x3, .int .i64 x4]) (by simp [results, Tryd.results39, go_sem, k0, k1, k2, k3, k4]) rfl ⟨rfl, ((((hb.setCell (by simp) _).setCell (by simp) _).setCell (by simp) _).setCell (by simp) _).setCell (by simp) _⟩

end Go.Proofs.YtpejdbnphjheeaaDoor
