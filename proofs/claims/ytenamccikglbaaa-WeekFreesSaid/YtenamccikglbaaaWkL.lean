/-
  What is proved: the steps that lay a pattern with a free day more, each with the world behind it under a name of its own. Conditions: at most 300 free days.
-/
import Derived.Test.YtenamccikglbaaaWkK
import Derived.Test.YtenamccikglbaaaWkJ
import Derived.Deep.RegionLaw
import Derived.Maps.AppendAt
import Derived.Laws.AppendOwnNone
namespace Go.Proofs.Ytenamccikglbaaa
open Go Go.RowKit Go.Proofs
set_option linter.unusedVariables false

/-- A fresh pattern. -/
def Fr8 (w : World) (g : Nat) : Prop := ∃ cs : Array Value, w.heap[g]? = some (.cells cs 26 (0, 0)) ∧ cs.size = 8
/-- A day in a row of its own. -/
def OneD (w : World) (g : Nat) (d : Int) : Prop := w.heap[g]? = some (.cells #[.int .i64 d] 27 (0, 0))
theorem lt_of_at {w : World} {g : Nat} {o : Obj} (h : w.heap[g]? = some o) : g < w.heap.size := by
  rcases Nat.lt_or_ge g w.heap.size with h1 | h1
  · exact h1
  · rw [Array.getElem?_eq_none h1] at h; cases h
theorem heap_new (w : World) (o : Obj) : (w.alloc o).heap[w.heap.size]? = some o := by
  show (w.heap.push o)[w.heap.size]? = some o
  simp
theorem Fr8.below {w w' : World} {g : Nat} (h : Fr8 w g) (hb : Below w.heap.size w w') : Fr8 w' g := by
  obtain ⟨cs, h1, h2⟩ := h
  exact ⟨cs, (hb.block g (lt_of_at h1)).trans h1, h2⟩
theorem OneD.below {w w' : World} {g : Nat} {d : Int} (h : OneD w g d) (hb : Below w.heap.size w w') : OneD w' g d := (hb.block g (lt_of_at h)).trans h
theorem own_below {w w' : World} {base : Nat} {e : TypeId} {v : Value} {n : Nat} {xs : List Value} (h : w.ownsRow base e 1 v n xs) (hb : Below w.heap.size w w') : w'.ownsRow base e 1 v n xs := by
  refine ⟨h.1, ?_⟩
  rcases h.2 with h2 | ⟨g, cap, cur, e1, e2, e3, e4⟩
  · exact .inl h2
  · exact .inr ⟨g, cap, cur, e1, e2, (hb.block g (lt_of_at e3)).trans e3, e4⟩
theorem own_lt {w : World} {base : Nat} {e : TypeId} {v : Value} {n : Nat} {xs : List Value} (h : w.ownsRow base e 1 v n xs) {g : Nat} (hg : w.heap.size ≤ g) : some g ≠ v.ownBlock := by
  rcases h.2 with ⟨rfl, _⟩ | ⟨g', cap, cur, rfl, e2, e3, e4⟩
  · intro h; cases h
  · intro h
    have := lt_of_at e3
    have h1 : g = g' := by injection h
    omega
theorem Fr8.far {w : World} {base : Nat} {v : Value} {n : Nat} {xs : List Value} {g : Nat} (h : Fr8 w g) (ho : w.ownsRow base 27 1 v n xs) : some g ≠ v.ownBlock := by
  obtain ⟨cs, h1, h2⟩ := h
  rcases ho.2 with ⟨rfl, _⟩ | ⟨g', cap, cur, rfl, e2, e3, e4⟩
  · intro h; cases h
  · intro h
    have h3 : g = g' := by injection h
    rw [h3, e3] at h1
    simp at h1
theorem Fr8.grown {w w' : World} {g : Nat} {row : Option Nat} (h : Fr8 w g) (hg : w.grownBy w' row) (hne : some g ≠ row) : Fr8 w' g := by
  obtain ⟨cs, h1, h2⟩ := h
  exact ⟨cs, (hg.block g (lt_of_at h1) hne).trans h1, h2⟩
theorem OneD.grown {w w' : World} {g : Nat} {d : Int} {row : Option Nat} (h : OneD w g d) (hg : w.grownBy w' row) (hne : some g ≠ row) : OneD w' g d := (hg.block g (lt_of_at h) hne).trans h
theorem own_base {w : World} {base : Nat} {e : TypeId} {v : Value} {n : Nat} {xs : List Value} (h : w.ownsRow base e 1 v n xs) : ∀ k, v.ownBlock = some k → base ≤ k := by
  rcases h.2 with ⟨rfl, _⟩ | ⟨g', cap, cur, rfl, e2, e3, e4⟩
  · intro k h; cases h
  · intro k h
    have h3 : g' = k := by injection h
    omega

theorem run_alloc_pat (W : World) : (Instr.alloc 26 true (.tuple #[])).run Try.prog W = .ok (.pointer (some ⟨W.heap.size, 0, none⟩)) (W.alloc (.cells #[.int .i64 0, .int .i64 0, .int .i64 0, .int .i64 0, .int .i64 0, .int .i64 0, .int .i64 0, .slice none 0 0] 26)) := by
  kernel_rfl
theorem run_bs0 (W : World) : (Instr.buildSlice 24 0 #[]).run Try.prog W = .ok (.slice (some ⟨W.heap.size, 0, none⟩) 0 0) (W.alloc (.cells #[] 27)) := by
  kernel_rfl
theorem run_bs1 (W : World) (x : Int) : (Instr.buildSlice 24 1 #[(0, .int .i64 x)]).run Try.prog W = .ok (.slice (some ⟨W.heap.size, 0, none⟩) 1 1) (W.alloc (.cells #[.int .i64 x] 27)) := by
  kernel_rfl

section
variable {ops : Array Oper} {o : Oper} {a : Act} {w : World} {K : Act → World → Prop} {Q : Exit → Act → World → Prop} {E : Prop}
theorem step_new8 (d : Tmp) (hg : o.guard = none) (hd : o.dst = some d) (ho : o.op = .alloc 26)
    (h : ∀ g w', Fr8 w' g → g = w.heap.size → Below w.heap.size w w' → K (a.put (some d) (.pointer (some ⟨g, 0, none⟩))) w') : if Region.wanted o (yielded ops a.tmps) = true then Oper.wp Try.prog o a w K Q else E := by
  have hw : Region.wanted o (yielded ops a.tmps) = true := by simp [Region.wanted, hg]
  rw [if_pos hw]
  unfold Oper.wp execOp
  simp only [ho, Sem.run_bind, Sem.run_pure, Result.andThen_ok, run_alloc_pat]
  rw [Oper.upon_value, hd]
  exact h _ _ ⟨_, heap_new w _, rfl⟩ rfl ((Below.refl _ _).alloc (Nat.le_refl _) _)
theorem step_bs0 (d : Tmp) (hg : o.guard = none) (hd : o.dst = some d) (ho : o.op = .buildSlice 24 0 #[]) (B : Nat) (hB : B ≤ w.heap.size)
    (h : ∀ v w', w'.ownsRow B 27 1 v 0 [] → v.ownBlock = some w.heap.size → Below w.heap.size w w' → K (a.put (some d) v) w') : if Region.wanted o (yielded ops a.tmps) = true then Oper.wp Try.prog o a w K Q else E := by
  have hw : Region.wanted o (yielded ops a.tmps) = true := by simp [Region.wanted, hg]
  rw [if_pos hw]
  unfold Oper.wp execOp
  simp only [ho, Sem.run_bind, Sem.run_pure, Result.andThen_ok, List.map_toArray, List.map_nil, run_bs0]
  rw [Oper.upon_value, hd]
  exact h _ _ ⟨rfl, .inr ⟨w.heap.size, 0, #[], rfl, hB, heap_new w _, Nat.le_refl _, by unfold maxLen; omega, rfl, rfl⟩⟩ rfl ((Below.refl _ _).alloc (Nat.le_refl _) _)
theorem step_bs1 (d : Tmp) (pO : Operand) (x : Int) (hg : o.guard = none) (hd : o.dst = some d) (ho : o.op = .buildSlice 24 1 #[(0, pO)]) (hv : a.eval pO = .int .i64 x)
    (h : ∀ g w', OneD w' g x → g = w.heap.size → Below w.heap.size w w' → K (a.put (some d) (.slice (some ⟨g, 0, none⟩) 1 1)) w') : if Region.wanted o (yielded ops a.tmps) = true then Oper.wp Try.prog o a w K Q else E := by
  have hw : Region.wanted o (yielded ops a.tmps) = true := by simp [Region.wanted, hg]
  rw [if_pos hw]
  unfold Oper.wp execOp
  simp only [ho, hv, Sem.run_bind, Sem.run_pure, Result.andThen_ok, List.map_toArray, List.map_cons, List.map_nil, run_bs1]
  rw [Oper.upon_value, hd]
  exact h _ _ (heap_new w _) rfl ((Below.refl _ _).alloc (Nat.le_refl _) _)

def rowD (F : List Int) : List Value := F.map (fun x => Value.int .i64 x)
theorem rowD_at (F : List Int) (j : Nat) (u : Value) (h : (rowD F)[j]? = some u) : j < F.length ∧ u = .int .i64 (F.getD j 0) := by
  unfold rowD at h
  rw [List.getElem?_map] at h
  rcases Nat.lt_or_ge j F.length with h1 | h1
  · rw [List.getElem?_eq_getElem h1] at h
    refine ⟨h1, ?_⟩
    rw [getD_ix F h1]
    simpa using h.symm
  · rw [List.getElem?_eq_none h1] at h; cases h
theorem infD : (Try.prog.info? 27).map (fun i => (i.zero, i.size, i.bytes)) = some (some (.int .i64 0), 1, 8) := by kernel_rfl
/-- Free days appended. -/
theorem step_app (d : Tmp) (s x : Operand) (hg : o.guard = none) (hd : o.dst = some d) (ho : o.op = .call { callee := .builtin .append, args := #[s, x], argTypes := #[24, 24] })
    (B : Nat) (v : Value) (n : Nat) (xs : List Int) (hs : a.eval s = v) (hown : w.ownsRow B 27 1 v n (rowD xs)) (p : Option Addr) (m c : Nat) (F : List Int) (hx : a.eval x = .slice p m c) (hm : m = F.length) (hD : DaysIn w p F) (h0 : p = none → m = 0) (hn : n + m ≤ 1000) (hB : B ≤ w.heap.size)
    (h : ∀ v' w', w'.ownsRow B 27 1 v' (n + m) (rowD (xs ++ F)) → w.grownBy w' v.ownBlock → (v'.ownBlock = v.ownBlock ∨ v'.ownBlock = some w.heap.size) → K (a.put (some d) v') w') : if Region.wanted o (yielded ops a.tmps) = true then Oper.wp Try.prog o a w K Q else E := by
  have hw : Region.wanted o (yielded ops a.tmps) = true := by simp [Region.wanted, hg]
  rw [if_pos hw]
  obtain ⟨i, hi, hz⟩ : ∃ i, Try.prog.info? 27 = some i ∧ (i.zero, i.size, i.bytes) = (some (.int .i64 0), 1, 8) := by
    have := infD
    rcases hh : Try.prog.info? 27 with _ | i
    · rw [hh] at this; cases this
    · rw [hh] at this; exact ⟨i, rfl, Option.some.inj this⟩
  injection hz with z1 z2
  injection z2 with z2 z3
  have hrun : ∃ v' w', (Builtin.append_ #[24, 24] o.type #[v, .slice p m c]).run Try.prog w = .ok v' w' ∧ w'.ownsRow B 27 1 v' (n + m) (rowD (xs ++ F)) ∧ w.grownBy w' v.ownBlock ∧ (v'.ownBlock = v.ownBlock ∨ v'.ownBlock = some w.heap.size) := by
    rcases hp : p with _ | ad
    · have hm0 : m = 0 := h0 hp
      have hF : F = [] := List.eq_nil_of_length_eq_zero (by omega)
      subst hm0 hF
      exact ⟨v, w, run_append_owned_none (P := Try.prog) (w := w) B 24 o.type 27 i 1 (by kernel_rfl) hi v n (rowD xs) hown, by simpa using hown, World.grownBy.refl w _, .inl rfl⟩
    · have hnews : ∀ j u, (rowD F)[j]? = some u → w.cell? (ad.add j) = some u := fun j u hu => by
        obtain ⟨hj, rfl⟩ := rowD_at F j u hu
        rcases hD with h1 | ⟨b, oo, h1, h2⟩
        · rw [h1] at hj; simp at hj
        · rw [hp] at h1
          injection h1 with h1
          subst h1
          have := h2 j hj
          rwa [show (Addr.mk b oo none).add j = ⟨b, oo + j, none⟩ by unfold Addr.add; split <;> simp_all]
      obtain ⟨v', w', r1, r2, r3, _, r5⟩ := run_append_own_at (P := Try.prog) w B 24 o.type 27 i (.int .i64 0) 1 8 (by kernel_rfl) hi z1 z2 z3 rfl (by decide) v n (rowD xs) hown ad m c (rowD F) (by simp [rowD, hm]) hnews
        (fun u hu => by simp only [rowD, List.mem_map] at hu; obtain ⟨j, -, rfl⟩ := hu; rfl) (by unfold maxLen; omega) (by omega) hB
      exact ⟨v', w', r1, by simpa [rowD] using r2, r3, r5⟩
  obtain ⟨v', w', r1, r2, r3, r4⟩ := hrun
  unfold Oper.wp execOp
  simp only [ho, resolve, invoke, builtin, Sem.run_bind, Sem.run_pure, Result.andThen_ok, List.map_toArray, List.map_cons, List.map_nil, hs, hx, r1]
  have := h v' w' r2 r3 r4
  rw [← hd] at this
  exact this
end

/-- The world behind a pattern stored. -/
def putP (w : World) (g : Nat) (q : Nat → Int) (v : Value) : World := (((((((w.setCell ⟨g, 0, none⟩ (.int .i64 (q 0))).setCell ⟨g, 1, none⟩ (.int .i64 (q 1))).setCell ⟨g, 2, none⟩ (.int .i64 (q 2))).setCell ⟨g, 3, none⟩ (.int .i64 (q 3))).setCell ⟨g, 4, none⟩ (.int .i64 (q 4))).setCell ⟨g, 5, none⟩ (.int .i64 (q 5))).setCell ⟨g, 6, none⟩ (.int .i64 (q 6))).setCell ⟨g, 7, none⟩ v
theorem Fr8.cells {w : World} {g : Nat} (h : Fr8 w g) : (∀ k, k < 8 → ∃ u, w.cell? ⟨g, k, none⟩ = some u) ∧ ∀ k, w.frozen? ⟨g, k, none⟩ = false := by
  obtain ⟨cs, h1, h2⟩ := h
  constructor
  · intro k hk
    rw [cell_of_row w g k cs _ _ h1]
    exact ⟨cs[k]'(by omega), by simp [h2, hk]⟩
  · intro k
    simp [World.frozen?, h1]
set_option maxRecDepth 10000 in
theorem run_storeP {w : World} {g : Nat} {p : Option Addr} {n c : Nat} (q : Nat → Int) (h : Fr8 w g) : (Instr.storeAt 26 (.pointer (some ⟨g, 0, none⟩)) (.agg #[.int .i64 (q 0), .int .i64 (q 1), .int .i64 (q 2), .int .i64 (q 3), .int .i64 (q 4), .int .i64 (q 5), .int .i64 (q 6), .slice p n c])).run Try.prog w = .ok () (putP w g q (.slice p n c)) := by
  obtain ⟨h1, h2⟩ := h.cells
  obtain ⟨u0, x0⟩ := h1 0 (by omega)
  obtain ⟨u1, x1⟩ := h1 1 (by omega)
  obtain ⟨u2, x2⟩ := h1 2 (by omega)
  obtain ⟨u3, x3⟩ := h1 3 (by omega)
  obtain ⟨u4, x4⟩ := h1 4 (by omega)
  obtain ⟨u5, x5⟩ := h1 5 (by omega)
  obtain ⟨u6, x6⟩ := h1 6 (by omega)
  obtain ⟨u7, x7⟩ := h1 7 (by omega)
  have f0 := h2 0
  have f1 := h2 1
  have f2 := h2 2
  have f3 := h2 3
  have f4 := h2 4
  have f5 := h2 5
  have f6 := h2 6
  have f7 := h2 7
  clear h h1 h2
  unfold putP
  go_simp

theorem so {w : World} {g j k : Nat} {v : Value} (h : j ≠ k) : (w.setCell ⟨g, j, none⟩ v).cell? ⟨g, k, none⟩ = w.cell? ⟨g, k, none⟩ := World.cell?_setCell_other _ _ _ _ (fun e => by injection e with e1 e2; exact h (by omega))
theorem putP_box {w : World} {g : Nat} (q : Nat → Int) (v : Value) (h : Fr8 w g) : PatBox (putP w g q v) g q v := by
  obtain ⟨h1, -⟩ := h.cells
  obtain ⟨u0, x0⟩ := h1 0 (by omega)
  obtain ⟨u1, x1⟩ := h1 1 (by omega)
  obtain ⟨u2, x2⟩ := h1 2 (by omega)
  obtain ⟨u3, x3⟩ := h1 3 (by omega)
  obtain ⟨u4, x4⟩ := h1 4 (by omega)
  obtain ⟨u5, x5⟩ := h1 5 (by omega)
  obtain ⟨u6, x6⟩ := h1 6 (by omega)
  obtain ⟨u7, x7⟩ := h1 7 (by omega)
  unfold putP
  constructor
  · intro k hk
    have e : k = 0 ∨ k = 1 ∨ k = 2 ∨ k = 3 ∨ k = 4 ∨ k = 5 ∨ k = 6 := by omega
    rcases e with rfl | rfl | rfl | rfl | rfl | rfl | rfl
    · rw [so (by decide), so (by decide), so (by decide), so (by decide), so (by decide), so (by decide), so (by decide)]
      exact World.cell?_setCell_same _ _ _ x0
    · rw [so (by decide), so (by decide), so (by decide), so (by decide), so (by decide), so (by decide)]
      exact World.cell?_setCell_same _ _ _ ((so (by decide)).trans x1)
    · rw [so (by decide), so (by decide), so (by decide), so (by decide), so (by decide)]
      exact World.cell?_setCell_same _ _ _ ((so (by decide)).trans ((so (by decide)).trans x2))
    · rw [so (by decide), so (by decide), so (by decide), so (by decide)]
      exact World.cell?_setCell_same _ _ _ ((so (by decide)).trans ((so (by decide)).trans ((so (by decide)).trans x3)))
    · rw [so (by decide), so (by decide), so (by decide)]
      exact World.cell?_setCell_same _ _ _ ((so (by decide)).trans ((so (by decide)).trans ((so (by decide)).trans ((so (by decide)).trans x4))))
    · rw [so (by decide), so (by decide)]
      exact World.cell?_setCell_same _ _ _ ((so (by decide)).trans ((so (by decide)).trans ((so (by decide)).trans ((so (by decide)).trans ((so (by decide)).trans x5)))))
    · rw [so (by decide)]
      exact World.cell?_setCell_same _ _ _ ((so (by decide)).trans ((so (by decide)).trans ((so (by decide)).trans ((so (by decide)).trans ((so (by decide)).trans ((so (by decide)).trans x6))))))
  · exact World.cell?_setCell_same _ _ _ ((so (by decide)).trans ((so (by decide)).trans ((so (by decide)).trans ((so (by decide)).trans ((so (by decide)).trans ((so (by decide)).trans ((so (by decide)).trans x7)))))))
theorem putP_below {B : Nat} {a w : World} {g : Nat} {q : Nat → Int} {v : Value} (h : Below B a w) (hg : B ≤ g) : Below B a (putP w g q v) := by
  unfold putP
  exact (((((((h.setCell (p := ⟨g, 0, none⟩) hg _).setCell (p := ⟨g, 1, none⟩) hg _).setCell (p := ⟨g, 2, none⟩) hg _).setCell (p := ⟨g, 3, none⟩) hg _).setCell (p := ⟨g, 4, none⟩) hg _).setCell (p := ⟨g, 5, none⟩) hg _).setCell (p := ⟨g, 6, none⟩) hg _).setCell (p := ⟨g, 7, none⟩) hg _
theorem putP_heap {w : World} {g k : Nat} {q : Nat → Int} {v : Value} (h : k ≠ g) : (putP w g q v).heap[k]? = w.heap[k]? := by
  unfold putP
  rw [Below.heap_setCell _ _ _ _ h, Below.heap_setCell _ _ _ _ h, Below.heap_setCell _ _ _ _ h, Below.heap_setCell _ _ _ _ h, Below.heap_setCell _ _ _ _ h, Below.heap_setCell _ _ _ _ h, Below.heap_setCell _ _ _ _ h, Below.heap_setCell _ _ _ _ h]

/-- A pattern with a free day more, laid. -/
def NewP (W0 W : World) (n : Nat) (q : Nat → Int) (L : List Int) (s : Value) : Prop :=
  ∃ (g : Nat) (p : Option Addr) (c : Nat), s = .pointer (some ⟨g, 0, none⟩) ∧ PatBox W g q (.slice p (n + 1) c) ∧ DaysIn W p L ∧ n + 1 ≤ c ∧ Below W0.heap.size W0 W
theorem newP_end {W0 w w' : World} {n : Nat} {q : Nat → Int} {L : List Int} {g g' c : Nat} (hF : Fr8 w g) (hO : w.ownsRow W0.heap.size 27 1 (.slice (some ⟨g', 0, none⟩) (n + 1) c) (n + 1) (rowD L)) (hL : L.length = n + 1) (hk : Below W0.heap.size W0 w) (hg : W0.heap.size ≤ g) (e : w' = putP w g q (.slice (some ⟨g', 0, none⟩) (n + 1) c)) : NewP W0 w' n q L (.pointer (some ⟨g, 0, none⟩)) := by
  have hne := hF.far hO
  subst e
  refine ⟨g, some ⟨g', 0, none⟩, c, rfl, putP_box q _ hF, ?_, ?_, putP_below hk hg⟩
  · rcases hO.2 with ⟨h, _⟩ | ⟨g2, c2, cur, e1, e2, e3, e4, e5, e6, e7⟩
    · cases h
    · injection e1 with e1
      injection e1 with e1
      injection e1 with e1
      subst e1
      refine .inr ⟨g', 0, rfl, fun j hj => ?_⟩
      have hgg : g' ≠ g := fun e => hne (by rw [e]; rfl)
      rw [World.cell?_of_block (w := w) (putP_heap hgg), cell_of_row w g' (0 + j) cur _ _ e3]
      have h1 : cur.toList[j]? = (rowD L)[j]? := by
        rw [← e7, List.getElem?_take_of_lt (by omega)]
      rw [Nat.zero_add, ← Array.getElem?_toList, h1]
      unfold rowD
      rw [List.getElem?_map, List.getElem?_eq_getElem hj, getD_ix L hj]
      rfl
  · rcases hO.2 with ⟨h, _⟩ | ⟨g2, c2, cur, e1, e2, e3, e4, e5⟩
    · cases h
    · injection e1 with e1 _ e8
      omega
section
variable {ops : Array Oper} {o : Oper} {a : Act} {w : World} {K : Act → World → Prop} {Q : Exit → Act → World → Prop} {E : Prop}
theorem step_storeP (pO vO : Operand) (hg : o.guard = none) (hd : o.dst = none) (ho : o.op = .store 26 pO vO) (g : Nat) (q : Nat → Int) (p : Option Addr) (n c : Nat) (hp : a.eval pO = .pointer (some ⟨g, 0, none⟩)) (hv : a.eval vO = .agg #[.int .i64 (q 0), .int .i64 (q 1), .int .i64 (q 2), .int .i64 (q 3), .int .i64 (q 4), .int .i64 (q 5), .int .i64 (q 6), .slice p n c]) (hF : Fr8 w g)
    (h : ∀ w', Hid (w' = putP w g q (.slice p n c)) → K a w') : if Region.wanted o (yielded ops a.tmps) = true then Oper.wp Try.prog o a w K Q else E := by
  have hw : Region.wanted o (yielded ops a.tmps) = true := by simp [Region.wanted, hg]
  rw [if_pos hw]
  unfold Oper.wp execOp
  simp only [ho, hp, hv, Sem.run_bind, Sem.run_pure, Result.andThen_ok, run_storeP q hF]
  rw [Oper.upon_skip, hd]
  exact h _ (Lib.hid rfl)
end

end Go.Proofs.Ytenamccikglbaaa
