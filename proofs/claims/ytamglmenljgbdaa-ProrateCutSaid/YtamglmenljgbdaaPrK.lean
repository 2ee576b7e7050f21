/-
  What is proved: more steps that lay a list of pieces: an empty one; and what stays of a row, or of one piece, where another row grows. Conditions: as there.
-/
import Derived.Test.YtamglmenljgbdaaPrI
namespace Go.Proofs.Ytamglmenljgbdaa
open Go Go.RowKit Go.Proofs
set_option linter.unusedVariables false
set_option linter.unusedSimpArgs false

theorem kf_step' {W0 w w' : World} (hb : Below w.heap.size w w') (h : Below W0.heap.size W0 w) : Below W0.heap.size W0 w' := h.trans (hb.mono h.size)
theorem kf_grown {W0 w w' : World} {E : TypeId} {s n : Nat} {v : Value} {xs : List Value} (hgr : w.grownBy w' v.ownBlock) (h : Below W0.heap.size W0 w) (hO : w.ownsRow W0.heap.size E s v n xs) : Below W0.heap.size W0 w' := h.grown hgr h.size (own_from hO)
theorem OneP.below {E : TypeId} {w w' : World} {g : Nat} {q : Pc} (h : OneP E w g q) (hb : Below w.heap.size w w') : OneP E w' g q := (hb.block g (lt_of_at h)).trans h
theorem OneP.grown {E : TypeId} {w w' : World} {g : Nat} {q : Pc} {row : Option Nat} (h : OneP E w g q) (hgr : w.grownBy w' row) (hne : row ≠ some g) : OneP E w' g q := (hgr.block g (lt_of_at h) (fun e => hne e.symm)).trans h
theorem own_lt {w : World} {base s : Nat} {e : TypeId} {v : Value} {n g : Nat} {xs : List Value} (h : w.ownsRow base e s v n xs) (hg : w.heap.size ≤ g) : v.ownBlock ≠ some g := by
  rcases h.2 with ⟨rfl, _⟩ | ⟨g', cap, cur, rfl, e2, e3, e4⟩
  · intro h; cases h
  · intro h
    have h3 : g' = g := by injection h
    have := lt_of_at e3
    omega
theorem ne_new {w : World} {v : Value} {g : Nat} (h : g < w.heap.size) (hv : v.ownBlock = some w.heap.size) : v.ownBlock ≠ some g := by rw [hv]; intro e; injection e with e; omega
theorem ne_app {w : World} {v v' : Value} {g : Nat} (h : v.ownBlock ≠ some g) (hl : g < w.heap.size) (hat : v'.ownBlock = v.ownBlock ∨ v'.ownBlock = some w.heap.size) : v'.ownBlock ≠ some g := by
  rcases hat with e | e
  · rw [e]; exact h
  · exact ne_new hl e
theorem run_bs0 (W : World) : (Instr.buildSlice 28 0 #[]).run Try.prog W = .ok (.slice (some ⟨W.heap.size, 0, none⟩) 0 0) (W.alloc (.cells #[] 50)) := by
  kernel_rfl
theorem op_bs0 {o : Oper} {a : Act} {w : World} {K : Act → World → Prop} {Q : Exit → Act → World → Prop} (d : Tmp) (hd : o.dst = some d) (ho : o.op = .buildSlice 28 0 #[]) (B : Nat) (hB : B ≤ w.heap.size)
    (h : ∀ v w', w'.ownsRow B 50 4 v 0 (pcC []) → v.ownBlock = some w.heap.size → Below w.heap.size w w' → K (a.put (some d) v) w') : Oper.wp Try.prog o a w K Q := by
  unfold Oper.wp execOp
  simp only [ho, Sem.run_bind, Sem.run_pure, Result.andThen_ok, List.map_toArray, List.map_nil, run_bs0]
  rw [Oper.upon_value, hd]
  exact h _ _ ⟨rfl, .inr ⟨w.heap.size, 0, #[], rfl, hB, heap_new w _, Nat.le_refl _, by unfold maxLen; omega, rfl, rfl⟩⟩ rfl ((Below.refl _ _).alloc (Nat.le_refl _) _)
theorem opCall {P : Program} {o : Oper} {a : Act} {w : World} {K : Act → World → Prop} {Q : Exit → Act → World → Prop} {f : FuncId} {vs : Array Value} (hrun : (execOp a.eval o).run P w = .ok (.enter f vs) w)
    (hc : Calls P f vs w fun
      | .returned v, w'' => K (a.put o.dst v) w''
      | .panicked chain, w'' => Q (.panic chain) a w''
      | .outgrown, _ => LetsOut Q) : Oper.wp P o a w K Q := by
  unfold Oper.wp
  rw [hrun, Oper.upon_enter]
  exact hc
theorem ent_Salary (a : Act) (W : World) (d : Option Tmp) (tys : Array TypeId) (t : TypeId) (ps : String) (af : Array Edge) (g : Option (Nat × Bool)) (x y : Operand) : (execOp a.eval { dst := d, op := .call { callee := .value (.func 14), args := #[x, y], argTypes := tys }, type := t, pos := ps, after := af, guard := g }).run Try.prog W = .ok (.enter 14 #[a.eval x, a.eval y]) W := by kernel_rfl
/-- A list from its k-th piece on, the other way round. -/
theorem rev_next {L : List Pc} {j : Nat} (h : j < L.length) : (L.drop j).reverse = (L.drop (j + 1)).reverse ++ [L.getD j ((0, 0), 0, 0)] := by
  rw [drop_next h, List.reverse_cons]

end Go.Proofs.Ytamglmenljgbdaa
