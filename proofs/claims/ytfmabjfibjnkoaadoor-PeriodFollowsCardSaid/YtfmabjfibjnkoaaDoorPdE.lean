/-
  What is proved: the contracts of Find's closure, of slices.IndexFunc with it, and of Find of a calendar. Conditions: the tables read as their texts lay them.
-/
import Derived.Test.YtfmabjfibjnkoaaDoorPdD
import Derived.Test.YtfmabjfibjnkoaaDoorShelf
namespace Go.Proofs.YtfmabjfibjnkoaaDoor
open Go Go.RowKit Go.Proofs Go.Shelf
set_option linter.unusedVariables false

/-- A result of six cells that is the call's own. -/
def Res6 (w : World) (g : Nat) : Prop := (∀ j, j < 6 → w.cell? ⟨g, j, none⟩ = some (.int .i64 0)) ∧ ∀ j, w.frozen? ⟨g, j, none⟩ = false
theorem Res6.below {w w' : World} {g : Nat} (h : Res6 w g) (hb : Below w.heap.size w w') : Res6 w' g :=
  ⟨fun j hj => stay hb (h.1 j hj), fun j => (hb.frozen (p := ⟨g, j, none⟩) (show g < w.heap.size from World.block_lt_of_cell? w _ (h.1 0 (by omega)))).trans (h.2 j)⟩
theorem Res6.all {w : World} {g : Nat} (h : Res6 w g) : (w.cell? ⟨g, 0, none⟩ = some (.int .i64 0) ∧ w.cell? ⟨g, 1, none⟩ = some (.int .i64 0) ∧ w.cell? ⟨g, 2, none⟩ = some (.int .i64 0) ∧ w.cell? ⟨g, 3, none⟩ = some (.int .i64 0) ∧ w.cell? ⟨g, 4, none⟩ = some (.int .i64 0) ∧ w.cell? ⟨g, 5, none⟩ = some (.int .i64 0)) ∧ (w.frozen? ⟨g, 0, none⟩ = false ∧ w.frozen? ⟨g, 1, none⟩ = false ∧ w.frozen? ⟨g, 2, none⟩ = false ∧ w.frozen? ⟨g, 3, none⟩ = false ∧ w.frozen? ⟨g, 4, none⟩ = false ∧ w.frozen? ⟨g, 5, none⟩ = false) :=
  ⟨⟨h.1 0 (by omega), h.1 1 (by omega), h.1 2 (by omega), h.1 3 (by omega), h.1 4 (by omega), h.1 5 (by omega)⟩, ⟨h.2 0, h.2 1, h.2 2, h.2 3, h.2 4, h.2 5⟩⟩
theorem set_in {w : World} {g i : Nat} {u v : Value} (h : w.cell? ⟨g, i, none⟩ = some u) : (w.setCell ⟨g, i, none⟩ v).cell? ⟨g, i, none⟩ = some v := World.cell?_setCell_same w _ _ h
theorem set_off {w : World} {g i j : Nat} {v : Value} (h : i ≠ j) : (w.setCell ⟨g, i, none⟩ v).cell? ⟨g, j, none⟩ = w.cell? ⟨g, j, none⟩ := World.cell?_setCell_other w _ _ _ (by intro e; injection e; omega)
theorem Res6.set {w : World} {g : Nat} (h : Res6 w g) (v0 v1 v2 v3 v4 v5 : Value) : ((((((w.setCell ⟨g, 0, none⟩ (v0)).setCell ⟨g, 1, none⟩ (v1)).setCell ⟨g, 2, none⟩ (v2)).setCell ⟨g, 3, none⟩ (v3)).setCell ⟨g, 4, none⟩ (v4)).setCell ⟨g, 5, none⟩ (v5)).cell? ⟨g, 0, none⟩ = some v0 ∧ ((((((w.setCell ⟨g, 0, none⟩ (v0)).setCell ⟨g, 1, none⟩ (v1)).setCell ⟨g, 2, none⟩ (v2)).setCell ⟨g, 3, none⟩ (v3)).setCell ⟨g, 4, none⟩ (v4)).setCell ⟨g, 5, none⟩ (v5)).cell? ⟨g, 1, none⟩ = some v1 ∧ ((((((w.setCell ⟨g, 0, none⟩ (v0)).setCell ⟨g, 1, none⟩ (v1)).setCell ⟨g, 2, none⟩ (v2)).setCell ⟨g, 3, none⟩ (v3)).setCell ⟨g, 4, none⟩ (v4)).setCell ⟨g, 5, none⟩ (v5)).cell? ⟨g, 2, none⟩ = some v2 ∧ ((((((w.setCell ⟨g, 0, none⟩ (v0)).setCell ⟨g, 1, none⟩ (v1)).setCell ⟨g, 2, none⟩ (v2)).setCell ⟨g, 3, none⟩ (v3)).setCell ⟨g, 4, none⟩ (v4)).setCell ⟨g, 5, none⟩ (v5)).cell? ⟨g, 3, none⟩ = some v3 ∧ ((((((w.setCell ⟨g, 0, none⟩ (v0)).setCell ⟨g, 1, none⟩ (v1)).setCell ⟨g, 2, none⟩ (v2)).setCell ⟨g, 3, none⟩ (v3)).setCell ⟨g, 4, none⟩ (v4)).setCell ⟨g, 5, none⟩ (v5)).cell? ⟨g, 4, none⟩ = some v4 ∧ ((((((w.setCell ⟨g, 0, none⟩ (v0)).setCell ⟨g, 1, none⟩ (v1)).setCell ⟨g, 2, none⟩ (v2)).setCell ⟨g, 3, none⟩ (v3)).setCell ⟨g, 4, none⟩ (v4)).setCell ⟨g, 5, none⟩ (v5)).cell? ⟨g, 5, none⟩ = some v5 := by
  obtain ⟨⟨a0, a1, a2, a3, a4, a5⟩, -⟩ := h.all
  refine ⟨?_, ?_, ?_, ?_, ?_, ?_⟩
  · exact ((set_off (by omega)).trans ((set_off (by omega)).trans ((set_off (by omega)).trans ((set_off (by omega)).trans ((set_off (by omega)).trans (set_in a0))))))
  · exact ((set_off (by omega)).trans ((set_off (by omega)).trans ((set_off (by omega)).trans ((set_off (by omega)).trans (set_in ((set_off (by omega)).trans a1))))))
  · exact ((set_off (by omega)).trans ((set_off (by omega)).trans ((set_off (by omega)).trans (set_in ((set_off (by omega)).trans ((set_off (by omega)).trans a2))))))
  · exact ((set_off (by omega)).trans ((set_off (by omega)).trans (set_in ((set_off (by omega)).trans ((set_off (by omega)).trans ((set_off (by omega)).trans a3))))))
  · exact ((set_off (by omega)).trans (set_in ((set_off (by omega)).trans ((set_off (by omega)).trans ((set_off (by omega)).trans ((set_off (by omega)).trans a4))))))
  · exact (set_in ((set_off (by omega)).trans ((set_off (by omega)).trans ((set_off (by omega)).trans ((set_off (by omega)).trans ((set_off (by omega)).trans a5))))))
theorem set6_below {B : Nat} {w0 w : World} {g : Nat} (hb : Below B w0 w) (hg : B ≤ g) (v0 v1 v2 v3 v4 v5 : Value) : Below B w0 ((((((w.setCell ⟨g, 0, none⟩ (v0)).setCell ⟨g, 1, none⟩ (v1)).setCell ⟨g, 2, none⟩ (v2)).setCell ⟨g, 3, none⟩ (v3)).setCell ⟨g, 4, none⟩ (v4)).setCell ⟨g, 5, none⟩ (v5)) :=
  (((((hb.setCell (p := ⟨g, 0, none⟩) hg v0).setCell (p := ⟨g, 1, none⟩) hg v1).setCell (p := ⟨g, 2, none⟩) hg v2).setCell (p := ⟨g, 3, none⟩) hg v3).setCell (p := ⟨g, 4, none⟩) hg v4).setCell (p := ⟨g, 5, none⟩) hg v5

theorem f1_yes (gs : Nat) (y i n a b p : Int) (W : World) (c0 : W.cell? ⟨gs, 0, none⟩ = some (.int .i64 a)) (c1 : W.cell? ⟨gs, 1, none⟩ = some (.int .i64 b)) :
    Calls Tryd.prog 31 #[.agg #[.int .i64 y, .int .i64 i, .int .i64 n, .int .i64 a, .int .i64 b, .int .i64 p], .pointer (some ⟨gs, 0, none⟩)] W fun e w' => e = .returned (.bool true) ∧ Below W.heap.size W w' := by
  have hgs := World.block_lt_of_cell? W _ c0
  have c0' := (World.cell?_alloc_lt W (.cells #[.int .i64 y, .int .i64 i, .int .i64 n, .int .i64 a, .int .i64 b, .int .i64 p] 30) ⟨gs, 0, none⟩ hgs).trans c0
  have c1' := (World.cell?_alloc_lt W (.cells #[.int .i64 y, .int .i64 i, .int .i64 n, .int .i64 a, .int .i64 b, .int .i64 p] 30) ⟨gs, 1, none⟩ hgs).trans c1
  clear hgs c0 c1
  go_enter Tryd.func31, Tryd.ntmps31
  go_wp2
  go_ret
  exact ⟨by simp, (Below.refl _ _).alloc (Nat.le_refl _) _⟩
theorem f1_no (gs : Nat) (y i n a b p A B : Int) (W : World) (h : a ≠ A) (c0 : W.cell? ⟨gs, 0, none⟩ = some (.int .i64 A)) (c1 : W.cell? ⟨gs, 1, none⟩ = some (.int .i64 B)) :
    Calls Tryd.prog 31 #[.agg #[.int .i64 y, .int .i64 i, .int .i64 n, .int .i64 a, .int .i64 b, .int .i64 p], .pointer (some ⟨gs, 0, none⟩)] W fun e w' => e = .returned (.bool false) ∧ Below W.heap.size W w' := by
  have hgs := World.block_lt_of_cell? W _ c0
  have c0' := (World.cell?_alloc_lt W (.cells #[.int .i64 y, .int .i64 i, .int .i64 n, .int .i64 a, .int .i64 b, .int .i64 p] 30) ⟨gs, 0, none⟩ hgs).trans c0
  have c1' := (World.cell?_alloc_lt W (.cells #[.int .i64 y, .int .i64 i, .int .i64 n, .int .i64 a, .int .i64 b, .int .i64 p] 30) ⟨gs, 1, none⟩ hgs).trans c1
  have e0 : (a == A) = false := by simpa using h
  clear hgs c0 c1 h
  go_enter Tryd.func31, Tryd.ntmps31
  go_wp2
  go_ret
  exact ⟨by simp, (Below.refl _ _).alloc (Nat.le_refl _) _⟩

set_option maxHeartbeats 2000000 in
set_option maxRecDepth 100000 in
theorem ixf_any (gs : Nat) (p : Option Addr) (c : Nat) (y l a b : Int) (K : List (Int × Int)) (i0 : Nat) (W : World) (hi : i0 < K.length) (hK : K.length ≤ 400) (hP : PersIn W p y K.length l K) (he : K.getD i0 (0, 0) = (a, b)) (hne : ∀ j, j < i0 → (K.getD j (0, 0)).1 ≠ a)
    (c0 : W.cell? ⟨gs, 0, none⟩ = some (.int .i64 a)) (c1 : W.cell? ⟨gs, 1, none⟩ = some (.int .i64 b)) :
    Calls Tryd.prog 30 #[.slice p K.length c, .func (.func 31) #[] #[.pointer (some ⟨gs, 0, none⟩)]] W fun e w' => e = .returned (.int .i64 i0) ∧ Below W.heap.size W w' := by
  have eg : ∀ args W, (callFunc 31 args).run Tryd.prog W = .ok (.enter 31 args) W := enters_of Tryd.func31 (by kernel_rfl) rfl
  have HP := Lib.hid hP
  have HE := Lib.hid he
  have HNE := Lib.hid hne
  obtain ⟨n, hn⟩ : ∃ n, n = K.length := ⟨_, rfl⟩
  have HN := Lib.hid hn
  rw [← hn] at hi hK ⊢
  clear hP he hne hn
  go_enter Tryd.func30, Tryd.ntmps30
  go_wp2
  go_loopw [8] (fun iv wr => ∃ i : Nat, i ≤ i0 ∧ iv = .int .i64 i ∧ Below W.heap.size W wr) (fun iv _ => i0 + 1 - (RowKit.intOf iv).toNat)
  case atStart => exact ⟨0, by omega, rfl, Below.refl _ _⟩
  case round =>
    obtain ⟨i, hii, rfl, hb⟩ := hrel
    have hin : (i : Int) < (n : Int) := by omega
    rcases (HP.out.below hb) with h | ⟨bb, o, rfl, hc⟩
    · have := HN.out; rw [h] at this; simp at this; omega
    obtain ⟨x0, x1, x2, x3, x4, x5⟩ := hc i (by have := HN.out; omega)
    have d0 := stay hb c0
    have d1 := stay hb c1
    clear hc
    by_cases hlt : i < i0
    · have h1 := HNE.out i hlt
      generalize payV (K.getD i (0, 0)).2 l = pv at *
      generalize (K.getD i (0, 0)).1 = A at *
      generalize (K.getD i (0, 0)).2 = B at *
      go_wp2_with fail
      refine (f1_no gs _ _ _ _ _ _ a b _ h1 d0 d1).mono ?_
      rintro e w2 ⟨rfl, hb2⟩
      have hb3 := hb.trans (hb2.mono hb.size)
      go_wp2
      exact ⟨⟨i + 1, by omega, by go_num, hb3⟩, by simp [RowKit.intOf]; omega⟩
    · obtain rfl : i = i0 := by omega
      rw [HE.out] at x3 x4 x5
      dsimp only at x3 x4 x5
      generalize payV b l = pv at *
      go_wp2_with fail
      refine (f1_yes gs _ _ _ _ _ _ _ d0 d1).mono ?_
      rintro e w2 ⟨rfl, hb2⟩
      have hb3 := hb.trans (hb2.mono hb.size)
      go_wp2
      go_ret
      exact ⟨rfl, hb3⟩

/-- One of a calendar's periods, in all its fields. -/
def OwnP (k f l y i n a b p : Int) : Prop := 1900 ≤ y ∧ y ≤ 2199 ∧ ∃ K : List (Int × Int), IsYear k f y K ∧ ∃ j, j < K.length ∧ i = ((j + 1 : Nat) : Int) ∧ n = (K.length : Int) ∧ K.getD j (0, 0) = (a, b) ∧ p = payV b l
/-- What Find tells of a day. -/
def FindR (k f l d y i n a b p e : Int) : Prop :=
  (chkC k f l ≠ 0 ∧ e = chkC k f l ∧ y = 0 ∧ i = 0 ∧ n = 0 ∧ a = 0 ∧ b = 0 ∧ p = 0) ∨
  (chkC k f l = 0 ∧ inB d = false ∧ e = 15 ∧ y = 0 ∧ i = 0 ∧ n = 0 ∧ a = 0 ∧ b = 0 ∧ p = 0) ∨
  (chkC k f l = 0 ∧ inB d = true ∧ (∃ a' b', Blk k f a' b' ∧ a' ≤ d ∧ d < b' ∧ wholeB a' b' = false) ∧ e = 6 ∧ y = 0 ∧ i = 0 ∧ n = 0 ∧ a = 0 ∧ b = 0 ∧ p = 0) ∨
  (chkC k f l = 0 ∧ inB d = true ∧ OwnP k f l y i n a b p ∧ a ≤ d ∧ d < b ∧ e = 0)
def FindPost (k f l d : Int) (w : World) (e : Ending) (w' : World) : Prop :=
  ∃ y i n a b p e' : Int, e = .returned (.tuple #[.agg #[.int .i64 y, .int .i64 i, .int .i64 n, .int .i64 a, .int .i64 b, .int .i64 p], .int .i64 e']) ∧ FindR k f l d y i n a b p e' ∧ Below w.heap.size w w'
theorem year_idx {k f y a b : Int} {K : List (Int × Int)} (h : IsYear k f y K) (he : Ends k f y a b) : ∃ j, j < K.length ∧ K.getD j (0, 0) = (a, b) ∧ ∀ m, m < j → (K.getD m (0, 0)).1 ≠ a := by
  obtain ⟨j, hj, e⟩ := List.getElem_of_mem ((h.2 (a, b)).2 he)
  have at' : ∀ m (hm : m < K.length), K.getD m (0, 0) = K[m] := fun m hm => by simp [List.getD, hm]
  refine ⟨j, hj, by rw [at' j hj, e], fun m hm => ?_⟩
  rw [at' m (by omega)]
  have := List.pairwise_iff_getElem.1 h.1 m j (by omega) hj hm
  rw [e] at this
  dsimp only at this
  omega

end Go.Proofs.YtfmabjfibjnkoaaDoor
