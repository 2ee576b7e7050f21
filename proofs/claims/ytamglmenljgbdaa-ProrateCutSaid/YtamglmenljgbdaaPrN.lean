/-
  What is proved: boxes of one piece, fresh, written, and kept; a row of two pieces; what a part of a slice of pieces holds. Conditions: none.
-/
import Derived.Test.YtamglmenljgbdaaPrK
namespace Go.Proofs.Ytamglmenljgbdaa
open Go Go.RowKit Go.Proofs
set_option linter.unusedVariables false
set_option linter.unusedSimpArgs false

def Bx (w : World) (g : Nat) (q : Pc) : Prop := P4 w g q.1.1 q.1.2 q.2.1 q.2.2 ∧ w.frozen? ⟨g, 0, none⟩ = false ∧ w.frozen? ⟨g, 1, none⟩ = false ∧ w.frozen? ⟨g, 2, none⟩ = false ∧ w.frozen? ⟨g, 3, none⟩ = false
def qset (W : World) (g : Nat) (q : Pc) : World := (((W.setCell ⟨g, 0, none⟩ (.int .i64 q.1.1)).setCell ⟨g, 1, none⟩ (.int .i64 q.1.2)).setCell ⟨g, 2, none⟩ (.int .i64 q.2.1)).setCell ⟨g, 3, none⟩ (.int .i64 q.2.2)
theorem Bx.lt {w : World} {g : Nat} {q : Pc} (h : Bx w g q) : g < w.heap.size := World.block_lt_of_cell? w ⟨g, 0, none⟩ h.1.1
theorem Bx.below {w w' : World} {g : Nat} {q : Pc} (h : Bx w g q) (hb : Below w.heap.size w w') : Bx w' g q :=
  ⟨h.1.kp hb, (hb.frozen (p := ⟨g, 0, none⟩) h.lt).trans h.2.1, (hb.frozen (p := ⟨g, 1, none⟩) h.lt).trans h.2.2.1, (hb.frozen (p := ⟨g, 2, none⟩) h.lt).trans h.2.2.2.1, (hb.frozen (p := ⟨g, 3, none⟩) h.lt).trans h.2.2.2.2⟩
theorem Bx.put {w : World} {g : Nat} {q q' : Pc} {p : Addr} {v : Value} (h : Bx w g q) (h4 : P4 (w.setCell p v) g q'.1.1 q'.1.2 q'.2.1 q'.2.2) : Bx (w.setCell p v) g q' := by
  obtain ⟨-, f0, f1, f2, f3⟩ := h
  exact ⟨h4, by simpa using f0, by simpa using f1, by simpa using f2, by simpa using f3⟩
theorem other {w : World} {p p' : Addr} {v u : Value} (h : w.cell? p = some u) (hne : p' ≠ p) : (w.setCell p' v).cell? p = some u := (World.cell?_setCell_other _ _ _ _ hne).trans h
theorem Bx.far {w : World} {g b j : Nat} {q : Pc} {v : Value} (h : Bx w g q) (hne : b ≠ g) : Bx (w.setCell ⟨b, j, none⟩ v) g q := by
  obtain ⟨h0, h1, h2, h3⟩ := h.1
  have n : ∀ k, (⟨b, j, none⟩ : Addr) ≠ ⟨g, k, none⟩ := fun k e => by injection e with e; exact hne e
  exact h.put ⟨other h0 (n 0), other h1 (n 1), other h2 (n 2), other h3 (n 3)⟩
theorem Bx.set0 {w : World} {g : Nat} {x z Y P m : Int} (h : Bx w g ((x, z), Y, P)) : Bx (w.setCell ⟨g, 0, none⟩ (.int .i64 m)) g ((m, z), Y, P) := by
  obtain ⟨h0, h1, h2, h3⟩ := h.1
  exact h.put ⟨World.cell?_setCell_same _ _ _ h0, other h1 (by simp), other h2 (by simp), other h3 (by simp)⟩
theorem Bx.set1 {w : World} {g : Nat} {x z Y P m : Int} (h : Bx w g ((x, z), Y, P)) : Bx (w.setCell ⟨g, 1, none⟩ (.int .i64 m)) g ((x, m), Y, P) := by
  obtain ⟨h0, h1, h2, h3⟩ := h.1
  exact h.put ⟨other h0 (by simp), World.cell?_setCell_same _ _ _ h1, other h2 (by simp), other h3 (by simp)⟩
theorem Bx.set2 {w : World} {g : Nat} {x z Y P m : Int} (h : Bx w g ((x, z), Y, P)) : Bx (w.setCell ⟨g, 2, none⟩ (.int .i64 m)) g ((x, z), m, P) := by
  obtain ⟨h0, h1, h2, h3⟩ := h.1
  exact h.put ⟨other h0 (by simp), other h1 (by simp), World.cell?_setCell_same _ _ _ h2, other h3 (by simp)⟩
theorem Bx.set3 {w : World} {g : Nat} {x z Y P m : Int} (h : Bx w g ((x, z), Y, P)) : Bx (w.setCell ⟨g, 3, none⟩ (.int .i64 m)) g ((x, z), Y, m) := by
  obtain ⟨h0, h1, h2, h3⟩ := h.1
  exact h.put ⟨other h0 (by simp), other h1 (by simp), other h2 (by simp), World.cell?_setCell_same _ _ _ h3⟩
theorem Bx.set {w : World} {g : Nat} {q0 : Pc} (h : Bx w g q0) (q : Pc) : Bx (qset w g q) g q := by
  obtain ⟨⟨x, z⟩, Y, P⟩ := q0
  exact h.set0.set1.set2.set3
theorem Bx.qfar {w : World} {g b : Nat} {q : Pc} (h : Bx w g q) (hne : b ≠ g) (q' : Pc) : Bx (qset w b q') g q := (((h.far hne).far hne).far hne).far hne
theorem qset_below {B : Nat} {a W : World} {g : Nat} (h : Below B a W) (hg : B ≤ g) (q : Pc) : Below B a (qset W g q) := (((h.setCell (p := ⟨g, 0, none⟩) hg _).setCell (p := ⟨g, 1, none⟩) hg _).setCell (p := ⟨g, 2, none⟩) hg _).setCell (p := ⟨g, 3, none⟩) hg _
theorem bx_new (w : World) (t : TypeId) : Bx (w.alloc (.cells #[.int .i64 0, .int .i64 0, .int .i64 0, .int .i64 0] t)) w.heap.size ((0, 0), 0, 0) := by
  refine ⟨⟨?_, ?_, ?_, ?_⟩, new_frozen _ _ _ _, new_frozen _ _ _ _, new_frozen _ _ _ _, new_frozen _ _ _ _⟩ <;> (rw [World.cell?_alloc_new]; rfl)
theorem run_allocP (W : World) : (Instr.alloc 50 true (.tuple #[])).run Try.prog W = .ok (.pointer (some ⟨W.heap.size, 0, none⟩)) (W.alloc (.cells #[.int .i64 0, .int .i64 0, .int .i64 0, .int .i64 0] 50)) := by
  kernel_rfl
theorem run_storeP {w : World} {g : Nat} {q0 : Pc} (q : Pc) (h : Bx w g q0) : (Instr.storeAt 50 (.pointer (some ⟨g, 0, none⟩)) (.agg #[.int .i64 q.1.1, .int .i64 q.1.2, .int .i64 q.2.1, .int .i64 q.2.2])).run Try.prog w = .ok () (qset w g q) := by
  obtain ⟨⟨x0, x1, x2, x3⟩, f0, f1, f2, f3⟩ := h
  unfold qset
  go_simp
theorem run_bs2 (W : World) (x0 x1 x2 x3 y0 y1 y2 y3 : Int) : (Instr.buildSlice 28 2 #[(0, .agg #[.int .i64 x0, .int .i64 x1, .int .i64 x2, .int .i64 x3]), (1, .agg #[.int .i64 y0, .int .i64 y1, .int .i64 y2, .int .i64 y3])]).run Try.prog W = .ok (.slice (some ⟨W.heap.size, 0, none⟩) 2 2) (W.alloc (.cells #[.int .i64 x0, .int .i64 x1, .int .i64 x2, .int .i64 x3, .int .i64 y0, .int .i64 y1, .int .i64 y2, .int .i64 y3] 50)) := by
  kernel_rfl
/-- Two pieces in a row of their own. -/
def TwoP (w : World) (g : Nat) (q r : Pc) : Prop := w.heap[g]? = some (.cells #[.int .i64 q.1.1, .int .i64 q.1.2, .int .i64 q.2.1, .int .i64 q.2.2, .int .i64 r.1.1, .int .i64 r.1.2, .int .i64 r.2.1, .int .i64 r.2.2] 50 (0, 0))
theorem TwoP.below {w w' : World} {g : Nat} {q r : Pc} (h : TwoP w g q r) (hb : Below w.heap.size w w') : TwoP w' g q r := (hb.block g (lt_of_at h)).trans h
theorem TwoP.grown {w w' : World} {g : Nat} {q r : Pc} {row : Option Nat} (h : TwoP w g q r) (hgr : w.grownBy w' row) (hne : row ≠ some g) : TwoP w' g q r := (hgr.block g (lt_of_at h) (fun e => hne e.symm)).trans h
theorem TwoP.pcs {w : World} {g : Nat} {q r : Pc} (h : TwoP w g q r) : PcsIn w (some ⟨g, 0, none⟩) [q, r] := .inr ⟨g, 0, rfl, fun j hj => by
  unfold TwoP at h
  rcases (show j = 0 ∨ j = 1 by simp at hj; omega) with rfl | rfl
  · refine ⟨?_, ?_, ?_, ?_⟩ <;> simp [World.cell?, h]
  · refine ⟨?_, ?_, ?_, ?_⟩ <;> simp [World.cell?, h]⟩
section
variable {o : Oper} {a : Act} {w : World} {K : Act → World → Prop} {Q : Exit → Act → World → Prop}
theorem op_newP (d : Tmp) (hd : o.dst = some d) (ho : o.op = .alloc 50)
    (h : ∀ g w', Bx w' g ((0, 0), 0, 0) → g = w.heap.size → Below w.heap.size w w' → K (a.put (some d) (.pointer (some ⟨g, 0, none⟩))) w') : Oper.wp Try.prog o a w K Q := by
  unfold Oper.wp execOp
  simp only [ho, Sem.run_bind, Sem.run_pure, Result.andThen_ok, run_allocP]
  rw [Oper.upon_value, hd]
  exact h _ _ (bx_new w _) rfl ((Below.refl _ _).alloc (Nat.le_refl _) _)
theorem op_storeP (pO vO : Operand) (hd : o.dst = none) (ho : o.op = .store 50 pO vO) (g : Nat) (q0 q : Pc) (hp : a.eval pO = .pointer (some ⟨g, 0, none⟩)) (hv : a.eval vO = .agg #[.int .i64 q.1.1, .int .i64 q.1.2, .int .i64 q.2.1, .int .i64 q.2.2]) (hF : Bx w g q0)
    (h : ∀ w', Hid (w' = qset w g q) → K a w') : Oper.wp Try.prog o a w K Q := by
  unfold Oper.wp execOp
  simp only [ho, hp, hv, Sem.run_bind, Sem.run_pure, Result.andThen_ok, run_storeP q hF]
  rw [Oper.upon_skip, hd]
  exact h _ (Lib.hid rfl)
theorem op_bs2 (d : Tmp) (pO qO : Operand) (q r : Pc) (hd : o.dst = some d) (ho : o.op = .buildSlice 28 2 #[(0, pO), (1, qO)]) (hv : a.eval pO = .agg #[.int .i64 q.1.1, .int .i64 q.1.2, .int .i64 q.2.1, .int .i64 q.2.2]) (hv' : a.eval qO = .agg #[.int .i64 r.1.1, .int .i64 r.1.2, .int .i64 r.2.1, .int .i64 r.2.2])
    (h : ∀ g w', TwoP w' g q r → g = w.heap.size → Below w.heap.size w w' → K (a.put (some d) (.slice (some ⟨g, 0, none⟩) 2 2)) w') : Oper.wp Try.prog o a w K Q := by
  unfold Oper.wp execOp
  simp only [ho, hv, hv', Sem.run_bind, Sem.run_pure, Result.andThen_ok, List.map_toArray, List.map_cons, List.map_nil, run_bs2]
  rw [Oper.upon_value, hd]
  exact h _ _ (heap_new w _) rfl ((Below.refl _ _).alloc (Nat.le_refl _) _)
end
theorem PcsIn.take {w : World} {p : Option Addr} {L : List Pc} (h : PcsIn w p L) (k : Nat) : PcsIn w p (L.take k) := by
  rcases h with rfl | ⟨b, o, rfl, hc⟩
  · exact .inl (by simp)
  · refine .inr ⟨b, o, rfl, fun j hj => ?_⟩
    have hj' : j < k ∧ j < L.length := by rw [List.length_take] at hj; omega
    have e : (L.take k).getD j ((0, 0), 0, 0) = L.getD j ((0, 0), 0, 0) := by simp [List.getD, hj'.1]
    rw [e]
    exact hc j hj'.2
theorem PcsIn.drop {w : World} {b o : Nat} {L : List Pc} (h : PcsIn w (some ⟨b, o, none⟩) L) (k : Nat) : PcsIn w (some ⟨b, o + k * 4, none⟩) (L.drop k) := by
  rcases h with rfl | ⟨b', o', hp, hc⟩
  · exact .inl (by simp)
  · injection hp with hp
    injection hp with h1 h2
    subst h1 h2
    refine .inr ⟨b, o + k * 4, rfl, fun j hj => ?_⟩
    have hj' : k + j < L.length := by rw [List.length_drop] at hj; omega
    have e : (L.drop k).getD j ((0, 0), 0, 0) = L.getD (k + j) ((0, 0), 0, 0) := by simp [List.getD]
    rw [e, show o + k * 4 + j * 4 = o + (k + j) * 4 by omega]
    exact hc (k + j) hj'
theorem PcsIn.dropIf {w : World} {b o c : Nat} {L : List Pc} (h : PcsIn w (some ⟨b, o, none⟩) L) (k : Nat) (hc : L.length ≤ c) : PcsIn w (if c = k then some ⟨b, o, none⟩ else some ⟨b, o + k * 4, none⟩) (L.drop k) := by
  by_cases e : c = k
  · rw [if_pos e]
    exact .inl (List.drop_eq_nil_of_le (by omega))
  · rw [if_neg e]
    exact h.drop k

end Go.Proofs.Ytamglmenljgbdaa
