/-
  What is proved: an alloc and a store of a set's cell as one step of a region that draws its order, with the world behind it under a name of its own. Conditions: none.
-/
import Derived.Test.YtefcadngdcgpiaaSpO
import Derived.Deep.RegionLaw
namespace Go.Proofs.Ytefcadngdcgpiaa
open Go Go.RowKit Go.Proofs
set_option linter.unusedVariables false

/-- A new cell of a set. -/
def Fr (w : World) (g : Nat) : Prop := w.cell? ⟨g, 0, none⟩ = some (.slice none 0 0) ∧ w.frozen? ⟨g, 0, none⟩ = false
theorem Fr.lt {w : World} {g : Nat} (h : Fr w g) : g < w.heap.size := World.block_lt_of_cell? _ _ h.1
theorem Fr.below {w w' : World} {g : Nat} (h : Fr w g) (hb : Below w.heap.size w w') : Fr w' g := ⟨(hb.cell (p := ⟨g, 0, none⟩) h.lt).trans h.1, (hb.frozen (p := ⟨g, 0, none⟩) h.lt).trans h.2⟩
theorem Fr.drew {w : World} {g : Nat} (h : Fr w g) : Fr w.drew g := h
theorem fr_new (w : World) (t : TypeId) : Fr (w.alloc (.cells #[.slice none 0 0] t)) w.heap.size := ⟨new_cell _ _ _, new_unfrozen _ _ _ _⟩
theorem far_cell {w : World} {g h j : Nat} {v : Value} (hne : g ≠ h) : (w.setCell ⟨h, 0, none⟩ v).cell? ⟨g, j, none⟩ = w.cell? ⟨g, j, none⟩ := World.cell?_setCell_other _ _ _ _ (fun e => by injection e with e; exact hne (by omega))
theorem Fr.set {w : World} {g h : Nat} {v : Value} (x : Fr w g) (hne : g ≠ h) : Fr (w.setCell ⟨h, 0, none⟩ v) g := ⟨(far_cell hne).trans x.1, by simpa using x.2⟩

theorem run_alloc_set (W : World) : (Instr.alloc 26 true (.tuple #[])).run Try.prog W = .ok (.pointer (some ⟨W.heap.size, 0, none⟩)) (W.alloc (.cells #[.slice none 0 0] 26)) := by
  kernel_rfl
theorem run_store_set {W : World} {g : Nat} {p : Option Addr} {n c : Nat} (h : Fr W g) : (Instr.storeAt 26 (.pointer (some ⟨g, 0, none⟩)) (.agg #[.slice p n c])).run Try.prog W = .ok () (W.setCell ⟨g, 0, none⟩ (.slice p n c)) := by
  obtain ⟨h1, h2⟩ := h
  go_simp
theorem step_alloc {ops : Array Oper} {o : Oper} {a : Act} {w : World} {K : Act → World → Prop} {Q : Exit → Act → World → Prop} {E : Prop} (d : Tmp) (hg : o.guard = none) (hd : o.dst = some d) (ho : o.op = .alloc 26)
    (h : ∀ g w', Fr w' g → g = w.heap.size → Below w.heap.size w w' → K (a.put (some d) (.pointer (some ⟨g, 0, none⟩))) w') : if Region.wanted o (yielded ops a.tmps) = true then Oper.wp Try.prog o a w K Q else E := by
  have hw : Region.wanted o (yielded ops a.tmps) = true := by simp [Region.wanted, hg]
  rw [if_pos hw]
  unfold Oper.wp execOp
  simp only [ho, Sem.run_bind, Sem.run_pure, Result.andThen_ok, run_alloc_set]
  rw [Oper.upon_value, hd]
  exact h _ _ (fr_new w _) rfl ((Below.refl _ _).alloc (Nat.le_refl _) _)
theorem step_store {ops : Array Oper} {o : Oper} {a : Act} {w : World} {K : Act → World → Prop} {Q : Exit → Act → World → Prop} {E : Prop} (pO vO : Operand) (hg : o.guard = none) (hd : o.dst = none) (ho : o.op = .store 26 pO vO) (g : Nat) (p : Option Addr) (n c : Nat) (hp : a.eval pO = .pointer (some ⟨g, 0, none⟩)) (hv : a.eval vO = .agg #[.slice p n c]) (hF : Fr w g)
    (h : ∀ w', Hid (w' = w.setCell ⟨g, 0, none⟩ (.slice p n c)) → K a w') : if Region.wanted o (yielded ops a.tmps) = true then Oper.wp Try.prog o a w K Q else E := by
  have hw : Region.wanted o (yielded ops a.tmps) = true := by simp [Region.wanted, hg]
  rw [if_pos hw]
  unfold Oper.wp execOp
  simp only [ho, hp, hv, Sem.run_bind, Sem.run_pure, Result.andThen_ok, run_store_set hF]
  rw [Oper.upon_skip, hd]
  exact h _ (Lib.hid rfl)

theorem SpansIn.setFr {w : World} {p : Option Addr} {K : List Sp} {g : Nat} {u : Value} (h : SpansIn w p K) (f : Fr w g) : SpansIn (w.setCell ⟨g, 0, none⟩ u) p K := by
  have other : ∀ {b o : Nat} {x : Int}, w.cell? ⟨b, o, none⟩ = some (.int .i64 x) → (w.setCell ⟨g, 0, none⟩ u).cell? ⟨b, o, none⟩ = some (.int .i64 x) := fun {b o x} hx =>
    (World.cell?_setCell_other _ _ _ _ (fun e => by
      have h1 := f.1
      first
      | (rw [e] at h1; rw [hx] at h1; cases h1)
      | (rw [← e] at h1; rw [hx] at h1; cases h1))).trans hx
  rcases h with h | ⟨b, o, rfl, hc⟩
  · exact .inl h
  · exact .inr ⟨b, o, rfl, fun j hj => ⟨other (hc j hj).1, other (hc j hj).2⟩⟩
theorem IsSet.setFr {w : World} {N : Nat} {P : Int → Bool} {v : Value} {g : Nat} {u : Value} (h : IsSet w N P v) (f : Fr w g) : IsSet (w.setCell ⟨g, 0, Option.none⟩ u) N P v := by
  obtain ⟨K, p, c, h1, h2, h3, h4, h5, h6, h7⟩ := h
  exact ⟨K, p, c, h1, h2, h3, h4, h5, h6, h7.setFr f⟩
theorem kb_size {C : Prop} {W0 w : World} {g : Nat} (e : g = w.heap.size) (h : C ∧ Below W0.heap.size W0 w) : W0.heap.size ≤ g := by rw [e]; exact h.2.size

/-- Two sets in two new cells. -/
def Two (W4 : World) (N : Nat) (P Q : Int → Bool) (s10 s11 : Value) (wx : World) : Prop :=
  ∃ (g h : Nat) (pb : Option Addr) (nb cb : Nat) (pr : Option Addr) (nr cr : Nat), s10 = .pointer (some ⟨g, 0, none⟩) ∧ s11 = .pointer (some ⟨h, 0, none⟩) ∧ wx.cell? ⟨g, 0, none⟩ = some (.slice pb nb cb) ∧ wx.cell? ⟨h, 0, none⟩ = some (.slice pr nr cr) ∧ Hid (IsSet wx N P (.agg #[.slice pb nb cb])) ∧ Hid (IsSet wx N Q (.agg #[.slice pr nr cr])) ∧ Below W4.heap.size W4 wx
theorem two_end {W4 V w5 w6 : World} {N : Nat} {P Q : Int → Bool} {g h : Nat} {pb pr : Option Addr} {nb cb nr cr : Nat} (FA : Fr V g) (FB : Fr V h) (hne : g ≠ h) (IB : IsSet V N P (.agg #[.slice pb nb cb])) (IR : IsSet V N Q (.agg #[.slice pr nr cr])) (hK : Below W4.heap.size W4 V) (hg : W4.heap.size ≤ g) (hh : W4.heap.size ≤ h)
    (e5 : w5 = V.setCell ⟨g, 0, none⟩ (.slice pb nb cb)) (e6 : w6 = w5.setCell ⟨h, 0, none⟩ (.slice pr nr cr)) : Two W4 N P Q (.pointer (some ⟨g, 0, none⟩)) (.pointer (some ⟨h, 0, none⟩)) w6 := by
  subst e5
  have FB5 := FB.set (v := .slice pb nb cb) (Ne.symm hne)
  subst e6
  exact ⟨g, h, pb, nb, cb, pr, nr, cr, rfl, rfl, (far_cell hne).trans (World.cell?_setCell_same _ _ _ FA.1), World.cell?_setCell_same _ _ _ FB5.1, Lib.hid ((IB.setFr FA).setFr FB5), Lib.hid ((IR.setFr FA).setFr FB5), kb_set' (kb_set' hK hg) hh⟩
theorem two_end' {W4 V w5 w6 : World} {N : Nat} {P Q : Int → Bool} {g h : Nat} {pb pr : Option Addr} {nb cb nr cr : Nat} (FA : Fr V g) (FB : Fr V h) (hne : g ≠ h) (IB : IsSet V N P (.agg #[.slice pb nb cb])) (IR : IsSet V N Q (.agg #[.slice pr nr cr])) (hK : Below W4.heap.size W4 V) (hg : W4.heap.size ≤ g) (hh : W4.heap.size ≤ h)
    (e5 : w5 = V.setCell ⟨h, 0, none⟩ (.slice pr nr cr)) (e6 : w6 = w5.setCell ⟨g, 0, none⟩ (.slice pb nb cb)) : Two W4 N P Q (.pointer (some ⟨g, 0, none⟩)) (.pointer (some ⟨h, 0, none⟩)) w6 := by
  subst e5
  have FA5 := FA.set (v := .slice pr nr cr) hne
  subst e6
  exact ⟨g, h, pb, nb, cb, pr, nr, cr, rfl, rfl, World.cell?_setCell_same _ _ _ FA5.1, (far_cell (Ne.symm hne)).trans (World.cell?_setCell_same _ _ _ FB.1), Lib.hid ((IB.setFr FB).setFr FA5), Lib.hid ((IR.setFr FB).setFr FA5), kb_set' (kb_set' hK hh) hg⟩

end Go.Proofs.Ytefcadngdcgpiaa
