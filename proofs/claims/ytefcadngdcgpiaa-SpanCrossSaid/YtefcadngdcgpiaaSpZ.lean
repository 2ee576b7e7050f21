/-
  What is proved: a call as one step of a region that draws its order, without a look at the rest of the region. Conditions: none.
-/
import Derived.Test.YtefcadngdcgpiaaSpY
namespace Go.Proofs.Ytefcadngdcgpiaa
open Go Go.RowKit Go.Proofs
set_option linter.unusedVariables false

theorem step_call {P : Program} {ops : Array Oper} {o : Oper} {a : Act} {w : World} {K : Act → World → Prop} {Q : Exit → Act → World → Prop} {E : Prop} {f : FuncId} {vs : Array Value} (hw : Region.wanted o (yielded ops a.tmps) = true) (hrun : (execOp a.eval o).run P w = .ok (.enter f vs) w)
    (hc : Calls P f vs w fun
      | .returned v, w'' => K (a.put o.dst v) w''
      | .panicked chain, w'' => Q (.panic chain) a w''
      | .outgrown, _ => LetsOut Q) : if Region.wanted o (yielded ops a.tmps) = true then Oper.wp P o a w K Q else E := by
  rw [if_pos hw]
  unfold Oper.wp
  rw [hrun, Oper.upon_enter]
  exact hc
theorem opCall {P : Program} {o : Oper} {a : Act} {w : World} {K : Act → World → Prop} {Q : Exit → Act → World → Prop} {f : FuncId} {vs : Array Value} (hrun : (execOp a.eval o).run P w = .ok (.enter f vs) w)
    (hc : Calls P f vs w fun
      | .returned v, w'' => K (a.put o.dst v) w''
      | .panicked chain, w'' => Q (.panic chain) a w''
      | .outgrown, _ => LetsOut Q) : Oper.wp P o a w K Q := by
  unfold Oper.wp
  rw [hrun, Oper.upon_enter]
  exact hc
theorem opOne {o : Oper} {a : Act} {w : World} {K : Act → World → Prop} {Q : Exit → Act → World → Prop} (d : Tmp) (pO : Operand) (x y : Int) (hd : o.dst = some d) (ho : o.op = .buildSlice 22 1 #[(0, pO)]) (hv : a.eval pO = .agg #[.int .i64 x, .int .i64 y])
    (h : ∀ g w', Hid (SpansIn w' (some ⟨g, 0, none⟩) [(x, y)]) → Below w.heap.size w w' → K (a.put (some d) (.slice (some ⟨g, 0, none⟩) 1 1)) w') : Oper.wp Try.prog o a w K Q := by
  unfold Oper.wp execOp
  simp only [ho, List.map_toArray, List.map_cons, List.map_nil, hv, Sem.run_bind, Sem.run_pure, Result.andThen_ok, run_one]
  rw [Oper.upon_value, hd]
  exact h _ _ (Lib.hid (one_in w x y _)) ((Below.refl _ _).alloc (Nat.le_refl _) _)
theorem ent_Cross (a : Act) (W : World) (d : Option Tmp) (tys : Array TypeId) (t : TypeId) (ps : String) (af : Array Edge) (g : Option (Nat × Bool)) (x y : Operand) : (execOp a.eval { dst := d, op := .call { callee := .value (.func 26), args := #[x, y], argTypes := tys }, type := t, pos := ps, after := af, guard := g }).run Try.prog W = .ok (.enter 26 #[a.eval x, a.eval y]) W := by kernel_rfl
theorem ent_Length (a : Act) (W : World) (d : Option Tmp) (tys : Array TypeId) (t : TypeId) (ps : String) (af : Array Edge) (g : Option (Nat × Bool)) (x : Operand) : (execOp a.eval { dst := d, op := .call { callee := .value (.func 24), args := #[x], argTypes := tys }, type := t, pos := ps, after := af, guard := g }).run Try.prog W = .ok (.enter 24 #[a.eval x]) W := by kernel_rfl
theorem ent_Of (a : Act) (W : World) (d : Option Tmp) (tys : Array TypeId) (t : TypeId) (ps : String) (af : Array Edge) (g : Option (Nat × Bool)) (x : Operand) : (execOp a.eval { dst := d, op := .call { callee := .value (.func 12), args := #[x], argTypes := tys }, type := t, pos := ps, after := af, guard := g }).run Try.prog W = .ok (.enter 12 #[a.eval x]) W := by kernel_rfl
theorem ent_All (a : Act) (W : World) (d : Option Tmp) (tys : Array TypeId) (t : TypeId) (ps : String) (af : Array Edge) (g : Option (Nat × Bool)) (x : Operand) : (execOp a.eval { dst := d, op := .call { callee := .value (.func 15), args := #[x], argTypes := tys }, type := t, pos := ps, after := af, guard := g }).run Try.prog W = .ok (.enter 15 #[a.eval x]) W := by kernel_rfl
theorem ent_Meet (a : Act) (W : World) (d : Option Tmp) (tys : Array TypeId) (t : TypeId) (ps : String) (af : Array Edge) (g : Option (Nat × Bool)) (x y : Operand) : (execOp a.eval { dst := d, op := .call { callee := .value (.func 18), args := #[x, y], argTypes := tys }, type := t, pos := ps, after := af, guard := g }).run Try.prog W = .ok (.enter 18 #[a.eval x, a.eval y]) W := by kernel_rfl
theorem ent_Same (a : Act) (W : World) (d : Option Tmp) (tys : Array TypeId) (t : TypeId) (ps : String) (af : Array Edge) (g : Option (Nat × Bool)) (x y : Operand) : (execOp a.eval { dst := d, op := .call { callee := .value (.func 14), args := #[x, y], argTypes := tys }, type := t, pos := ps, after := af, guard := g }).run Try.prog W = .ok (.enter 14 #[a.eval x, a.eval y]) W := by kernel_rfl
theorem ent_Pieces (a : Act) (W : World) (d : Option Tmp) (tys : Array TypeId) (t : TypeId) (ps : String) (af : Array Edge) (g : Option (Nat × Bool)) (x y : Operand) : (execOp a.eval { dst := d, op := .call { callee := .value (.func 28), args := #[x, y], argTypes := tys }, type := t, pos := ps, after := af, guard := g }).run Try.prog W = .ok (.enter 28 #[a.eval x, a.eval y]) W := by kernel_rfl

end Go.Proofs.Ytefcadngdcgpiaa
