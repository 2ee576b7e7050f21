/-
  What is proved: a year's periods, by a right calendar, as the statement's walk uses them; rows of bools. Conditions: the tables of months' and periods' lengths read as the program lays them.
-/
import Derived.Test.YtogdiiengbmiiaaDoorTaPeC
import Derived.Test.YtogdiiengbmiiaaDoorTaPrG
import Derived.Test.YtogdiiengbmiiaaDoorTaPrM
namespace Go.Proofs.YtogdiiengbmiiaaDoor
open Go Go.RowKit Go.Proofs
set_option linter.unusedVariables false
set_option linter.unusedSimpArgs false

set_option maxHeartbeats 1000000 in
set_option maxRecDepth 100000 in
theorem Year_ok (k f l y : Int) (w : World) (hT : Pe.Tabs w) (hc : Pe.chkC k f l = 0) (hy1 : 1900 ≤ y) (hy2 : y ≤ 2199) :
    Calls Tryd.prog 4 #[.agg #[.int .i64 k, .int .i64 f, .int .i64 l], .int .i64 y] w fun e w' => ∃ (K : List (Int × Int)) (p : Option Addr) (c : Nat), Pe.IsYear k f y K ∧ e = .returned (.tuple #[.slice p K.length c, .int .i64 0]) ∧ Pe.PersIn w' p y K.length l K ∧ Below w.heap.size w w' := by
  obtain ⟨W1, hW1⟩ : ∃ W1, W1 = w.alloc (.cells #[.int .i64 k, .int .i64 f, .int .i64 l] 27) := ⟨_, rfl⟩
  have hb0 : Below w.heap.size w W1 := by rw [hW1]; exact (Below.refl w.heap.size w).alloc (Nat.le_refl _) _
  have x0 : W1.cell? ⟨w.heap.size, 0, none⟩ = some (.int .i64 k) := by rw [hW1, World.cell?_alloc_new]; rfl
  have x1 : W1.cell? ⟨w.heap.size, 1, none⟩ = some (.int .i64 f) := by rw [hW1, World.cell?_alloc_new]; rfl
  have x2 : W1.cell? ⟨w.heap.size, 2, none⟩ = some (.int .i64 l) := by rw [hW1, World.cell?_alloc_new]; rfl
  have hT1 := Lib.hid (hT.stay hb0)
  have HC := Pe.Check_any k f l W1 hT1.out.1
  rw [hc] at HC
  have HC := Lib.hid HC
  have h1 : ¬ y < 1900 := by omega
  have h2 : ¬ 2199 < y := by omega
  have HPE := Lib.hid (fun W hT => Pe.periods_any k f l y W hT hc hy1 hy2)
  clear hT hc
  go_enter Tryd.func4, Tryd.ntmps4
  go_wp2_with fail
  rw [← hW1]
  clear hW1
  refine (HC.out).mono ?_
  rintro e w2 ⟨rfl, hb2⟩
  have hb3 := hb0.trans (hb2.mono hb0.size)
  have y0 := stay hb2 x0
  have y1 := stay hb2 x1
  have y2 := stay hb2 x2
  go_wp2_with fail
  refine (HPE.out _ (hT1.out.stay hb2)).mono ?_
  rintro e w4 ⟨K, p, c, hIY, rfl, hPI, hb4⟩
  have HIY := Lib.hid hIY
  have HPI := Lib.hid hPI
  have hb5 := hb3.trans (hb4.mono hb3.size)
  clear hIY hPI
  go_wp2
  go_ret2
  exact ⟨K, p, c, HIY.out, rfl, HPI.out, hb5⟩
/-- A year's periods are of 14 to 31 days, and there is one. -/
theorem year_facts {k f y : Int} {K : List (Int × Int)} (h : Pe.IsYear k f y K) (hk : k = 0 ∨ k = 1 ∨ k = 2) (h1 : 2000 ≤ y) (h2 : y ≤ 2099) : (∀ s ∈ K, s.1 < s.2 ∧ s.2 - s.1 ≤ 31 ∧ -25567 ≤ s.1 ∧ s.2 ≤ 84006) ∧ 0 < K.length ∧ K.length ≤ 400 := by
  obtain ⟨j1, j2, j3⟩ := Pe.jan_y (y := y) (by omega) (by omega)
  refine ⟨fun s hs => ?_, ?_, h.len⟩
  · obtain ⟨e1, e2, e3, e4, e5⟩ := (h.2 s).1 hs
    have := e1.len
    omega
  · obtain ⟨a, b, hB, h3, h4⟩ := Pe.Blk.at (k := k) (f := f) (d := Pe.jan y + 100) hk (by omega) (by omega)
    have hl := hB.len
    obtain ⟨i1, i2, i3⟩ := Pe.jan_y (y := 1900) (by omega) (by omega)
    have hjan : -25567 ≤ a := by
      have e0 : Pe.jan 1900 ≤ Pe.jan y := by
        apply Int.not_lt.1
        intro hlt
        have := Pe.jan_lt hlt
        omega
      omega
    exact List.length_pos_of_mem ((h.2 (a, b)).2 ⟨hB, hjan, by omega, by omega, by omega⟩)

/-- A row of bools. -/
def BoolRow (w : World) (g D : Nat) : Prop := (∀ j, j < D → ∃ b : Bool, w.cell? ⟨g, j, none⟩ = some (.bool b)) ∧ ∀ j, w.frozen? ⟨g, j, none⟩ = false
theorem BoolRow.below {w w' : World} {g D : Nat} (h : BoolRow w g D) (hg : g < w.heap.size) (hb : Below w.heap.size w w') : BoolRow w' g D :=
  ⟨fun j hj => by obtain ⟨b, e⟩ := h.1 j hj; exact ⟨b, stay hb e⟩, fun j => (hb.frozen (p := ⟨g, j, none⟩) hg).trans (h.2 j)⟩
theorem BoolRow.set {w : World} {g D r : Nat} (h : BoolRow w g D) (hr : r < D) : BoolRow (w.setCell ⟨g, r, none⟩ (.bool true)) g D := by
  refine ⟨fun j hj => ?_, fun j => (World.frozen?_setCell ..).trans (h.2 j)⟩
  by_cases e : j = r
  · subst e
    obtain ⟨b, hb⟩ := h.1 j hj
    exact ⟨true, World.cell?_setCell_same _ _ _ hb⟩
  · obtain ⟨b, hb⟩ := h.1 j hj
    exact ⟨b, (World.cell?_setCell_other _ _ _ _ (fun e' => by injection e' with _ e2; exact e e2.symm)).trans hb⟩
theorem bool_own {w : World} {base D c : Nat} {E : TypeId} {g : Nat} {xs : List Value} (h : w.ownsRow base E 1 (.slice (some ⟨g, 0, none⟩) D c) D xs) (hx : ∀ u ∈ xs, ∃ b : Bool, u = .bool b) (hl : xs.length = D) (hD : 0 < D) : BoolRow w g D := by
  obtain ⟨g', c', hv, hg, hlt, hle, hc⟩ := own_cells h hD
  injection hv with hv
  injection hv with hv
  injection hv with h1
  subst h1
  refine ⟨fun j hj => ?_, fun j => h.frozenAt j⟩
  have hjl : j < xs.length := by omega
  obtain ⟨b, hb⟩ := hx xs[j] (List.getElem_mem hjl)
  exact ⟨b, hc j (.bool b) (by rw [List.getElem?_eq_getElem hjl, hb])⟩
theorem infB : (Tryd.prog.info? 4).map (fun i => (i.zero, i.size, i.bytes)) = some (some (.bool false), 1, 1) := by kernel_rfl

end Go.Proofs.YtogdiiengbmiiaaDoor
