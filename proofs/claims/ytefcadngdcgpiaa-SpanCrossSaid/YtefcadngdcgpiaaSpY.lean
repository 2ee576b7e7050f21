/-
  What is proved: plain facts on what two spans have in common, on the pieces of a span as a set; the set of one span; a slice of one span made as one step of a region that draws its order; a place in a region at which all its orders meet. Conditions: none.
-/
import Derived.Test.YtefcadngdcgpiaaSpX
import Derived.Test.YtefcadngdcgpiaaSpP
namespace Go.Proofs.Ytefcadngdcgpiaa
open Go Go.RowKit Go.Proofs
set_option linter.unusedVariables false

theorem cross_comm (s t : Sp) : crossS s t = crossS t s := by unfold crossS; rw [Int.min_comm s.2, Int.max_comm s.1]
theorem cross_has (s t : Sp) (d : Int) : hasB [crossS s t] d = (hasB [s] d && hasB [t] d) := by
  rw [Bool.eq_iff_iff, Bool.and_eq_true, hasB_iff, hasB_iff, hasB_iff, Mem_one, Mem_one, Mem_one]
  unfold crossS
  split <;> dsimp only <;> omega
theorem cross64 {s t : Sp} (h1 : in64 s.1) (h2 : in64 s.2) (h3 : in64 t.1) (h4 : in64 t.2) : in64 (crossS s t).1 ∧ in64 (crossS s t).2 := by
  unfold in64 at *
  unfold crossS
  split <;> dsimp only <;> omega
theorem cross_len (s t : Sp) : cut62 (lenS (crossS s t)) ≤ cut62 (lenS s) := by
  have h : lenS (crossS s t) ≤ lenS s := by
    unfold lenS crossS
    split <;> split <;> dsimp only at * <;> (try split) <;> omega
  unfold cut62
  split <;> split <;> omega
theorem pieces_has {K : List Sp} {D : List Int} {a b : Int} (k1 : b ≤ a → K = []) (k2 : a < b → ∃ r, CutsOf a b D r ∧ K = pcs a r b) (d : Int) : hasB K d = hasB [(a, b)] d := by
  rw [Bool.eq_iff_iff, hasB_iff, hasB_iff, Mem_one]
  rcases Int.lt_or_le a b with h | h
  · obtain ⟨r, hr, rfl⟩ := k2 h
    exact pcs_days hr.1 (fun x hx => by
      rcases List.mem_cons.1 hx with rfl | hx
      · exact h
      · exact ((hr.2 x).1 hx).2.2) d
  · rw [k1 h]
    exact ⟨fun h1 => absurd h1 (Mem_nil _), fun h1 => by dsimp only at h1; omega⟩
theorem pieces64 {K : List Sp} {D : List Int} {a b : Int} (k1 : b ≤ a → K = []) (k2 : a < b → ∃ r, CutsOf a b D r ∧ K = pcs a r b) (ha : in64 a) (hb : in64 b) : ∀ s ∈ K, in64 s.1 ∧ in64 s.2 := by
  rcases Int.lt_or_le a b with h | h
  · obtain ⟨r, hr, rfl⟩ := k2 h
    intro s hs
    obtain ⟨i, hi, e⟩ := List.getElem_of_mem hs
    obtain ⟨f1, -, -, -, -, f2, f3⟩ := pieces_facts hr h hi
    rw [getD_at _ _ hi, e] at f1 f2 f3
    unfold in64 at *
    omega
  · rw [k1 h]; intro s hs; cases hs
theorem OfOne (p : Option Addr) (c : Nat) (x y : Int) (w : World) (hx : in64 x) (hy : in64 y) (h : SpansIn w p [(x, y)]) :
    Calls Try.prog 12 #[.slice p 1 c] w (SetPost 2 (fun d => hasB [(x, y)] d) w) :=
  Of_set p c [(x, y)] w (by simp) (fun s hs => by rw [List.mem_singleton.1 hs]; exact ⟨hx, hy⟩) h
theorem one_in (w : World) (x y : Int) (t : TypeId) : SpansIn (w.alloc (.cells #[.int .i64 x, .int .i64 y] t)) (some ⟨w.heap.size, 0, none⟩) [(x, y)] := by
  refine .inr ⟨_, _, rfl, fun j hj => ?_⟩
  have e : j = 0 := by simp at hj; omega
  subst e
  rw [World.cell?_alloc_new, World.cell?_alloc_new]
  exact ⟨rfl, rfl⟩
theorem run_one (W : World) (x y : Int) : (Instr.buildSlice 22 1 #[(0, .agg #[.int .i64 x, .int .i64 y])]).run Try.prog W = .ok (.slice (some ⟨W.heap.size, 0, none⟩) 1 1) (W.alloc (.cells #[.int .i64 x, .int .i64 y] 39)) := by
  kernel_rfl
theorem step_one {ops : Array Oper} {o : Oper} {a : Act} {w : World} {K : Act → World → Prop} {Q : Exit → Act → World → Prop} {E : Prop} (d : Tmp) (pO : Operand) (x y : Int) (hw : Region.wanted o (yielded ops a.tmps) = true) (hd : o.dst = some d) (ho : o.op = .buildSlice 22 1 #[(0, pO)]) (hv : a.eval pO = .agg #[.int .i64 x, .int .i64 y])
    (h : ∀ g w', Hid (SpansIn w' (some ⟨g, 0, none⟩) [(x, y)]) → Below w.heap.size w w' → K (a.put (some d) (.slice (some ⟨g, 0, none⟩) 1 1)) w') : if Region.wanted o (yielded ops a.tmps) = true then Oper.wp Try.prog o a w K Q else E := by
  rw [if_pos hw]
  unfold Oper.wp execOp
  simp only [ho, List.map_toArray, List.map_cons, List.map_nil, hv, Sem.run_bind, Sem.run_pure, Result.andThen_ok, run_one]
  rw [Oper.upon_value, hd]
  exact h _ _ (Lib.hid (one_in w x y _)) ((Below.refl _ _).alloc (Nat.le_refl _) _)
theorem want {c p q : Prop} [Decidable c] (hc : c) (h : p) : if c then p else q := by rw [if_pos hc]; exact h
/-- All orders meet at a place: what holds there is shown once. -/
theorem wpAnyH_via {P : Program} {md : Region.Mode} {ops : Array Oper} {Q : Exit → Act → World → Prop} {S : World → Prop} {fuel : Nat} {listed : Array Bool} {a : Act} {w : World} (f : Nat) (L : Array Bool) (R : Act → World → Prop) (h2 : ∀ a w, R a w → wpAnyH P md ops Q S f L a w)
    (h1 : Shut (∀ (a : Act) (w : World) (fuel : Nat) (listed : Array Bool), fuel = f → listed = L → R a w → wpAnyH P md ops Q S fuel listed a w) → wpAnyH P md ops Q S fuel listed a w) : wpAnyH P md ops Q S fuel listed a w :=
  h1 (fun a w _ _ e1 e2 h => by subst e1; subst e2; exact h2 a w h)

end Go.Proofs.Ytefcadngdcgpiaa
