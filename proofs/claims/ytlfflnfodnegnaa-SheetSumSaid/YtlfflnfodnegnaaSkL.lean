/-
  What is proved: the steps that lay a list of entries with one more, each with the world behind it under a name of its own. Conditions: at most 1000 entries.
-/
import Derived.Test.YtlfflnfodnegnaaSkJ
import Derived.Deep.RegionLaw
import Derived.Maps.AppendAt
import Derived.Laws.AppendOwnNone
namespace Go.Proofs.Ytlfflnfodnegnaa
open Go Go.RowKit Go.Proofs
set_option linter.unusedVariables false

/-- Fresh hours. -/
def Fr3 (w : World) (g : Nat) : Prop := w.heap[g]? = some (.cells #[.int .i64 0, .int .i64 0, .int .i64 0] 30 (0, 0))
/-- An entry in a row of its own. -/
def OneE (w : World) (g : Nat) (x : En) : Prop := w.heap[g]? = some (.cells #[.int .i64 x.1, .int .i64 x.2.1, .int .i64 x.2.2] 46 (0, 0))
theorem lt_of_at {w : World} {g : Nat} {o : Obj} (h : w.heap[g]? = some o) : g < w.heap.size := (Array.getElem?_eq_some_iff.1 h).1
theorem heap_new (w : World) (o : Obj) : (w.alloc o).heap[w.heap.size]? = some o := by
  show (w.heap.push o)[w.heap.size]? = some o
  simp
theorem Fr3.below {w w' : World} {g : Nat} (h : Fr3 w g) (hb : Below w.heap.size w w') : Fr3 w' g := (hb.block g (lt_of_at h)).trans h
theorem OneE.below {w w' : World} {g : Nat} {x : En} (h : OneE w g x) (hb : Below w.heap.size w w') : OneE w' g x := (hb.block g (lt_of_at h)).trans h
theorem Fr3.grown {w w' : World} {g : Nat} {row : Option Nat} (h : Fr3 w g) (hg : w.grownBy w' row) (hne : some g ≠ row) : Fr3 w' g := (hg.block g (lt_of_at h) hne).trans h
theorem OneE.grown {w w' : World} {g : Nat} {x : En} {row : Option Nat} (h : OneE w g x) (hg : w.grownBy w' row) (hne : some g ≠ row) : OneE w' g x := (hg.block g (lt_of_at h) hne).trans h
theorem Fr3.box {w : World} {g : Nat} (h : Fr3 w g) : HrBox w g (0, 0, 0) := by
  unfold Fr3 at h
  refine ⟨⟨?_, ?_, ?_⟩, ?_, ?_, ?_⟩ <;> simp [World.cell?, World.frozen?, h]
theorem OneE.ents {w : World} {g : Nat} {x : En} (h : OneE w g x) : EntsIn w (some ⟨g, 0, none⟩) 1 (fun _ => x) := .inr ⟨g, 0, rfl, fun j hj => by
  obtain rfl : j = 0 := by omega
  unfold OneE at h
  refine ⟨?_, ?_, ?_⟩ <;> simp [World.cell?, h]⟩
theorem own_below {w w' : World} {base s : Nat} {e : TypeId} {v : Value} {n : Nat} {xs : List Value} (h : w.ownsRow base e s v n xs) (hb : Below w.heap.size w w') : w'.ownsRow base e s v n xs := by
  refine ⟨h.1, ?_⟩
  rcases h.2 with h2 | ⟨g, cap, cur, e1, e2, e3, e4⟩
  · exact .inl h2
  · exact .inr ⟨g, cap, cur, e1, e2, (hb.block g (lt_of_at e3)).trans e3, e4⟩
theorem own_lt {w : World} {base s : Nat} {e : TypeId} {v : Value} {n : Nat} {xs : List Value} (h : w.ownsRow base e s v n xs) {g : Nat} (hg : w.heap.size ≤ g) : some g ≠ v.ownBlock := by
  rcases h.2 with ⟨rfl, _⟩ | ⟨g', cap, cur, rfl, e2, e3, e4⟩
  · intro h; cases h
  · intro h
    have := lt_of_at e3
    have h1 : g = g' := by injection h
    omega
theorem Fr3.far {w : World} {base : Nat} {v : Value} {n : Nat} {xs : List Value} {g : Nat} (h : Fr3 w g) (ho : w.ownsRow base 46 3 v n xs) : some g ≠ v.ownBlock := by
  rcases ho.2 with ⟨rfl, _⟩ | ⟨g', cap, cur, rfl, e2, e3, e4⟩
  · intro h; cases h
  · intro h'
    have h3 : g = g' := by injection h'
    unfold Fr3 at h
    rw [h3, e3] at h
    simp at h
theorem own_from {w : World} {base s : Nat} {e : TypeId} {v : Value} {n : Nat} {xs : List Value} (h : w.ownsRow base e s v n xs) : ∀ k, v.ownBlock = some k → base ≤ k := by
  rcases h.2 with ⟨rfl, _⟩ | ⟨g', cap, cur, rfl, e2, e3, e4⟩
  · intro k h; cases h
  · intro k h
    have h3 : g' = k := by injection h
    omega
theorem ne_new {w : World} {g : Nat} {v : Value} (h : g < w.heap.size) (hv : v.ownBlock = some w.heap.size) : some g ≠ v.ownBlock := by
  rw [hv]; intro e; injection e; omega
theorem ne_app {w : World} {g : Nat} {v v' : Value} (hne : some g ≠ v.ownBlock) (h : g < w.heap.size) (hat : v'.ownBlock = v.ownBlock ∨ v'.ownBlock = some w.heap.size) : some g ≠ v'.ownBlock := by
  rcases hat with e | e
  · rw [e]; exact hne
  · exact ne_new h e
theorem kf_drew {W0 : World} : Below W0.heap.size W0 W0.drew := (Below.refl _ _).drew
theorem kf_step {W0 w w' : World} (hb : Below w.heap.size w w') (h : Below W0.heap.size W0 w) : Below W0.heap.size W0 w' := h.trans (hb.mono h.size)
theorem kf_grown {W0 w w' : World} {e : TypeId} {v : Value} {n s : Nat} {xs : List Value} (hg : w.grownBy w' v.ownBlock) (h : Below W0.heap.size W0 w) (ho : w.ownsRow W0.heap.size e s v n xs) : Below W0.heap.size W0 w' := h.grown hg h.size (own_from ho)

theorem run_allocH (W : World) : (Instr.alloc 30 true (.tuple #[])).run Try.prog W = .ok (.pointer (some ⟨W.heap.size, 0, none⟩)) (W.alloc (.cells #[.int .i64 0, .int .i64 0, .int .i64 0] 30)) := by
  kernel_rfl
theorem run_bs0 (W : World) : (Instr.buildSlice 22 0 #[]).run Try.prog W = .ok (.slice (some ⟨W.heap.size, 0, none⟩) 0 0) (W.alloc (.cells #[] 46)) := by
  kernel_rfl
theorem run_bs1 (W : World) (x y z : Int) : (Instr.buildSlice 22 1 #[(0, .agg #[.int .i64 x, .int .i64 y, .int .i64 z])]).run Try.prog W = .ok (.slice (some ⟨W.heap.size, 0, none⟩) 1 1) (W.alloc (.cells #[.int .i64 x, .int .i64 y, .int .i64 z] 46)) := by
  kernel_rfl
theorem run_storeH {w : World} {g : Nat} (h : Hr) (x : HrBox w g (0, 0, 0)) : (Instr.storeAt 30 (.pointer (some ⟨g, 0, none⟩)) (.agg #[.int .i64 h.1, .int .i64 h.2.1, .int .i64 h.2.2])).run Try.prog w = .ok () (hset w g h) := by
  obtain ⟨⟨x0, x1, x2⟩, f0, f1, f2⟩ := x
  unfold hset
  go_simp

/-- The first entries, as a list. -/
def lsE (f : Nat → En) (m : Nat) : List En := (List.range m).map f
theorem lsE_len (f : Nat → En) (m : Nat) : (lsE f m).length = m := by simp [lsE]
theorem lsE_at (f : Nat → En) {m j : Nat} (h : j < m) : (lsE f m).getD j (0, 0, 0) = f j := by simp [lsE, List.getD, h]
theorem hrC_get {L : List En} {j : Nat} {u : Value} (h : (hrC L)[j]? = some u) : j / 3 < L.length ∧ (j % 3 = 0 → u = .int .i64 (L.getD (j / 3) (0, 0, 0)).1) ∧ (j % 3 = 1 → u = .int .i64 (L.getD (j / 3) (0, 0, 0)).2.1) ∧ (j % 3 = 2 → u = .int .i64 (L.getD (j / 3) (0, 0, 0)).2.2) := by
  have hl : j < (hrC L).length := (List.getElem?_eq_some_iff.1 h).1
  rw [hrC_len] at hl
  have hq : j / 3 < L.length := by omega
  obtain ⟨a, b, c⟩ := hrC_at L (j / 3) hq
  refine ⟨hq, fun e => ?_, fun e => ?_, fun e => ?_⟩
  · rw [show j / 3 * 3 = j by omega, h] at a; exact Option.some.inj a
  · rw [show j / 3 * 3 + 1 = j by omega, h] at b; exact Option.some.inj b
  · rw [show j / 3 * 3 + 2 = j by omega, h] at c; exact Option.some.inj c

section
variable {ops : Array Oper} {o : Oper} {a : Act} {w : World} {K : Act → World → Prop} {Q : Exit → Act → World → Prop} {E : Prop}
theorem step_newH (d : Tmp) (hg : o.guard = none) (hd : o.dst = some d) (ho : o.op = .alloc 30)
    (h : ∀ g w', Fr3 w' g → g = w.heap.size → Below w.heap.size w w' → K (a.put (some d) (.pointer (some ⟨g, 0, none⟩))) w') : if Region.wanted o (yielded ops a.tmps) = true then Oper.wp Try.prog o a w K Q else E := by
  have hw : Region.wanted o (yielded ops a.tmps) = true := by simp [Region.wanted, hg]
  rw [if_pos hw]
  unfold Oper.wp execOp
  simp only [ho, Sem.run_bind, Sem.run_pure, Result.andThen_ok, run_allocH]
  rw [Oper.upon_value, hd]
  exact h _ _ (heap_new w _) rfl ((Below.refl _ _).alloc (Nat.le_refl _) _)
theorem step_bs0 (d : Tmp) (hg : o.guard = none) (hd : o.dst = some d) (ho : o.op = .buildSlice 22 0 #[]) (B : Nat) (hB : B ≤ w.heap.size)
    (h : ∀ v w', w'.ownsRow B 46 3 v 0 (hrC []) → v.ownBlock = some w.heap.size → Below w.heap.size w w' → K (a.put (some d) v) w') : if Region.wanted o (yielded ops a.tmps) = true then Oper.wp Try.prog o a w K Q else E := by
  have hw : Region.wanted o (yielded ops a.tmps) = true := by simp [Region.wanted, hg]
  rw [if_pos hw]
  unfold Oper.wp execOp
  simp only [ho, Sem.run_bind, Sem.run_pure, Result.andThen_ok, List.map_toArray, List.map_nil, run_bs0]
  rw [Oper.upon_value, hd]
  exact h _ _ ⟨rfl, .inr ⟨w.heap.size, 0, #[], rfl, hB, heap_new w _, Nat.le_refl _, by unfold maxLen; omega, rfl, rfl⟩⟩ rfl ((Below.refl _ _).alloc (Nat.le_refl _) _)
theorem step_bs1 (d : Tmp) (pO : Operand) (x : En) (hg : o.guard = none) (hd : o.dst = some d) (ho : o.op = .buildSlice 22 1 #[(0, pO)]) (hv : a.eval pO = .agg #[.int .i64 x.1, .int .i64 x.2.1, .int .i64 x.2.2])
    (h : ∀ g w', OneE w' g x → g = w.heap.size → Below w.heap.size w w' → K (a.put (some d) (.slice (some ⟨g, 0, none⟩) 1 1)) w') : if Region.wanted o (yielded ops a.tmps) = true then Oper.wp Try.prog o a w K Q else E := by
  have hw : Region.wanted o (yielded ops a.tmps) = true := by simp [Region.wanted, hg]
  rw [if_pos hw]
  unfold Oper.wp execOp
  simp only [ho, hv, Sem.run_bind, Sem.run_pure, Result.andThen_ok, List.map_toArray, List.map_cons, List.map_nil, run_bs1]
  rw [Oper.upon_value, hd]
  exact h _ _ (heap_new w _) rfl ((Below.refl _ _).alloc (Nat.le_refl _) _)
/-- Entries appended. -/
theorem step_app (d : Tmp) (s x : Operand) (hg : o.guard = none) (hd : o.dst = some d) (ho : o.op = .call { callee := .builtin .append, args := #[s, x], argTypes := #[22, 22] })
    (B : Nat) (v : Value) (n : Nat) (xs : List En) (hs : a.eval s = v) (hown : w.ownsRow B 46 3 v n (hrC xs)) (p : Option Addr) (m c : Nat) (F : Nat → En) (hx : a.eval x = .slice p m c) (hD : EntsIn w p m F) (hn : n + m ≤ 1000) (hB : B ≤ w.heap.size)
    (h : ∀ v' w', w'.ownsRow B 46 3 v' (n + m) (hrC (xs ++ lsE F m)) → w.grownBy w' v.ownBlock → (v'.ownBlock = v.ownBlock ∨ v'.ownBlock = some w.heap.size) → K (a.put (some d) v') w') : if Region.wanted o (yielded ops a.tmps) = true then Oper.wp Try.prog o a w K Q else E := by
  have hw : Region.wanted o (yielded ops a.tmps) = true := by simp [Region.wanted, hg]
  rw [if_pos hw]
  obtain ⟨i, hi, z1, z2, z3⟩ := info_parts (P := Try.prog) (e := 46) (z := .agg #[.int .i64 0, .int .i64 0, .int .i64 0]) (size := 3) (bytes := 24) (by kernel_rfl)
  have hrun : ∃ v' w', (Builtin.append_ #[22, 22] o.type #[v, .slice p m c]).run Try.prog w = .ok v' w' ∧ w'.ownsRow B 46 3 v' (n + m) (hrC (xs ++ lsE F m)) ∧ w.grownBy w' v.ownBlock ∧ (v'.ownBlock = v.ownBlock ∨ v'.ownBlock = some w.heap.size) := by
    rcases hp : p with _ | ad
    · have hm0 : m = 0 := by
        rcases hD with h1 | ⟨b, oo, h1, _⟩
        · exact h1
        · rw [hp] at h1; cases h1
      subst hm0
      exact ⟨v, w, run_append_owned_none (P := Try.prog) (w := w) B 22 o.type 46 i 3 (by kernel_rfl) hi v n (hrC xs) hown, by simpa [lsE] using hown, World.grownBy.refl w _, .inl rfl⟩
    · have hnews : ∀ j u, (hrC (lsE F m))[j]? = some u → w.cell? (ad.add j) = some u := fun j u hu => by
        obtain ⟨hq, u0, u1, u2⟩ := hrC_get hu
        rw [lsE_len] at hq
        rcases hD with h1 | ⟨b, oo, h1, h2⟩
        · omega
        · rw [hp] at h1
          obtain rfl := Option.some.inj h1
          obtain ⟨a0, a1, a2⟩ := h2 (j / 3) hq
          rw [lsE_at F hq] at u0 u1 u2
          rw [show (Addr.mk b oo none).add j = ⟨b, oo + j, none⟩ by unfold Addr.add; split <;> simp_all]
          rcases (show j % 3 = 0 ∨ j % 3 = 1 ∨ j % 3 = 2 by omega) with e | e | e
          · rw [u0 e, ← a0, show oo + j / 3 * 3 = oo + j by omega]
          · rw [u1 e, ← a1, show oo + j / 3 * 3 + 1 = oo + j by omega]
          · rw [u2 e, ← a2, show oo + j / 3 * 3 + 2 = oo + j by omega]
      obtain ⟨v', w', r1, r2, r3, _, r5⟩ := run_append_own_at (P := Try.prog) w B 22 o.type 46 i (.agg #[.int .i64 0, .int .i64 0, .int .i64 0]) 3 24 (by kernel_rfl) hi z1 z2 z3 rfl (by decide) v n (hrC xs) hown ad m c (hrC (lsE F m)) (by rw [hrC_len, lsE_len]) hnews
        (fun u hu => by
          obtain ⟨j, hj⟩ := List.getElem?_of_mem hu
          obtain ⟨-, u0, u1, u2⟩ := hrC_get hj
          rcases (show j % 3 = 0 ∨ j % 3 = 1 ∨ j % 3 = 2 by omega) with e | e | e
          · rw [u0 e]; rfl
          · rw [u1 e]; rfl
          · rw [u2 e]; rfl) (by unfold maxLen; omega) (by omega) hB
      exact ⟨v', w', r1, by rw [hrC_app]; exact r2, r3, r5⟩
  obtain ⟨v', w', r1, r2, r3, r4⟩ := hrun
  unfold Oper.wp execOp
  simp only [ho, resolve, invoke, builtin, Sem.run_bind, Sem.run_pure, Result.andThen_ok, List.map_toArray, List.map_cons, List.map_nil, hs, hx, r1]
  have := h v' w' r2 r3 r4
  rw [← hd] at this
  exact this
theorem step_storeH (pO vO : Operand) (hg : o.guard = none) (hd : o.dst = none) (ho : o.op = .store 30 pO vO) (g : Nat) (x : Hr) (hp : a.eval pO = .pointer (some ⟨g, 0, none⟩)) (hv : a.eval vO = .agg #[.int .i64 x.1, .int .i64 x.2.1, .int .i64 x.2.2]) (hF : Fr3 w g)
    (h : ∀ w', Hid (w' = hset w g x) → K a w') : if Region.wanted o (yielded ops a.tmps) = true then Oper.wp Try.prog o a w K Q else E := by
  have hw : Region.wanted o (yielded ops a.tmps) = true := by simp [Region.wanted, hg]
  rw [if_pos hw]
  unfold Oper.wp execOp
  simp only [ho, hp, hv, Sem.run_bind, Sem.run_pure, Result.andThen_ok, run_storeH x hF.box]
  rw [Oper.upon_skip, hd]
  exact h _ (Lib.hid rfl)
theorem step_call {f : FuncId} {vs : Array Value} (hw : Region.wanted o (yielded ops a.tmps) = true) (hrun : (execOp a.eval o).run Try.prog w = .ok (.enter f vs) w)
    (hc : Calls Try.prog f vs w fun
      | .returned v, w'' => K (a.put o.dst v) w''
      | .panicked chain, w'' => Q (.panic chain) a w''
      | .outgrown, _ => LetsOut Q) : if Region.wanted o (yielded ops a.tmps) = true then Oper.wp Try.prog o a w K Q else E := by
  rw [if_pos hw]
  unfold Oper.wp
  rw [hrun, Oper.upon_enter]
  exact hc
end
theorem ent_Sum (a : Act) (W : World) (d : Option Tmp) (tys : Array TypeId) (t : TypeId) (ps : String) (af : Array Edge) (g : Option (Nat × Bool)) (x y z : Operand) : (execOp a.eval { dst := d, op := .call { callee := .value (.func 10), args := #[x, y, z], argTypes := tys }, type := t, pos := ps, after := af, guard := g }).run Try.prog W = .ok (.enter 10 #[a.eval x, a.eval y, a.eval z]) W := by kernel_rfl

/-- Hours of a longer list, laid. -/
def NewH (W0 W : World) (R : Hr) (s : Value) : Prop := ∃ g : Nat, s = .pointer (some ⟨g, 0, none⟩) ∧ HrBox W g R ∧ W0.heap.size ≤ g ∧ Below W0.heap.size W0 W
theorem newH_end {W0 w w' : World} {g : Nat} {R : Hr} (hF : Fr3 w g) (hk : Below W0.heap.size W0 w) (hg : W0.heap.size ≤ g) (e : w' = hset w g R) : NewH W0 w' R (.pointer (some ⟨g, 0, none⟩)) := by
  subst e
  exact ⟨g, rfl, hF.box.set R, hg, hset_below hk hg R⟩

end Go.Proofs.Ytlfflnfodnegnaa
