/-
  What is proved: pieces as cells, and the steps that lay a list of pieces with one more, or with others behind it, each with the world behind it under a name of its own. Conditions: at most 100000 pieces.
-/
import Derived.Test.YtamglmenljgbdaaPrG
import Derived.Deep.RegionLaw
import Derived.Maps.AppendAt
import Derived.Laws.AppendOwnNone
import Derived.OwnWalk
import Derived.Maps.OwnOps
namespace Go.Proofs.Ytamglmenljgbdaa
open Go Go.RowKit Go.Proofs
set_option linter.unusedVariables false
set_option linter.unusedSimpArgs false

/-- Pieces as cells. -/
def pcC (L : List Pc) : List Value := L.flatMap (fun q => [.int .i64 q.1.1, .int .i64 q.1.2, .int .i64 q.2.1, .int .i64 q.2.2])
theorem pcC_len : ∀ L, (pcC L).length = L.length * 4
  | [] => rfl
  | s :: r => by show (pcC r).length + 4 = _; rw [pcC_len r]; simp; omega
theorem pcC_app (K L : List Pc) : pcC (K ++ L) = pcC K ++ pcC L := by simp [pcC]
theorem pcC_at : ∀ (L : List Pc) (j : Nat), j < L.length → (pcC L)[j * 4]? = some (.int .i64 (L.getD j ((0, 0), 0, 0)).1.1) ∧ (pcC L)[j * 4 + 1]? = some (.int .i64 (L.getD j ((0, 0), 0, 0)).1.2) ∧ (pcC L)[j * 4 + 2]? = some (.int .i64 (L.getD j ((0, 0), 0, 0)).2.1) ∧ (pcC L)[j * 4 + 3]? = some (.int .i64 (L.getD j ((0, 0), 0, 0)).2.2)
  | s :: r, 0, _ => ⟨rfl, rfl, rfl, rfl⟩
  | s :: r, j + 1, h => by
    obtain ⟨a, b, c, d⟩ := pcC_at r j (by simpa using h)
    rw [show (j + 1) * 4 = j * 4 + 4 by omega]
    exact ⟨a, b, c, d⟩
theorem pcC_get {L : List Pc} {j : Nat} {u : Value} (h : (pcC L)[j]? = some u) : j / 4 < L.length ∧ (j % 4 = 0 → u = .int .i64 (L.getD (j / 4) ((0, 0), 0, 0)).1.1) ∧ (j % 4 = 1 → u = .int .i64 (L.getD (j / 4) ((0, 0), 0, 0)).1.2) ∧ (j % 4 = 2 → u = .int .i64 (L.getD (j / 4) ((0, 0), 0, 0)).2.1) ∧ (j % 4 = 3 → u = .int .i64 (L.getD (j / 4) ((0, 0), 0, 0)).2.2) := by
  have hl : j < (pcC L).length := (List.getElem?_eq_some_iff.1 h).1
  rw [pcC_len] at hl
  have hq : j / 4 < L.length := by omega
  obtain ⟨a, b, c, d⟩ := pcC_at L (j / 4) hq
  refine ⟨hq, fun e => ?_, fun e => ?_, fun e => ?_, fun e => ?_⟩
  · rw [show j / 4 * 4 = j by omega, h] at a; exact Option.some.inj a
  · rw [show j / 4 * 4 + 1 = j by omega, h] at b; exact Option.some.inj b
  · rw [show j / 4 * 4 + 2 = j by omega, h] at c; exact Option.some.inj c
  · rw [show j / 4 * 4 + 3 = j by omega, h] at d; exact Option.some.inj d
theorem lt_of_at {w : World} {g : Nat} {o : Obj} (h : w.heap[g]? = some o) : g < w.heap.size := (Array.getElem?_eq_some_iff.1 h).1
theorem heap_new (w : World) (o : Obj) : (w.alloc o).heap[w.heap.size]? = some o := by
  show (w.heap.push o)[w.heap.size]? = some o
  simp
theorem own_slice {w : World} {base : Nat} {E : TypeId} {s n : Nat} {v : Value} {xs : List Value} (h : w.ownsRow base E s v n xs) : ∃ p c, v = .slice p n c := by
  rcases h.2 with ⟨h1, h2⟩ | ⟨g', c', cur, h1, _⟩
  · subst h2; exact ⟨none, 0, h1⟩
  · exact ⟨_, _, h1⟩
theorem own_below {w w' : World} {base s : Nat} {e : TypeId} {v : Value} {n : Nat} {xs : List Value} (h : w.ownsRow base e s v n xs) (hb : Below w.heap.size w w') : w'.ownsRow base e s v n xs := by
  refine ⟨h.1, ?_⟩
  rcases h.2 with h2 | ⟨g, cap, cur, e1, e2, e3, e4⟩
  · exact .inl h2
  · exact .inr ⟨g, cap, cur, e1, e2, (hb.block g (lt_of_at e3)).trans e3, e4⟩
theorem own_from {w : World} {base s : Nat} {e : TypeId} {v : Value} {n : Nat} {xs : List Value} (h : w.ownsRow base e s v n xs) : ∀ k, v.ownBlock = some k → base ≤ k := by
  rcases h.2 with ⟨rfl, _⟩ | ⟨g', cap, cur, rfl, e2, e3, e4⟩
  · intro k h; cases h
  · intro k h
    have h3 : g' = k := by injection h
    omega
theorem own_base {w : World} {base : Nat} {E : TypeId} {s n c : Nat} {p : Option Addr} {xs : List Value} (h : w.ownsRow base E s (.slice p n c) n xs) : ∀ a, p = some a → base ≤ a.block := fun a ha => by
  subst ha
  rcases h.2 with ⟨h1, _⟩ | ⟨g', c', cur, h1, h2, _⟩
  · cases h1
  · injection h1 with h1; injection h1 with h1; rw [h1]; exact h2
theorem add_plain' (g j : Nat) : (Addr.mk g 0 none).add j = ⟨g, j, none⟩ := by unfold Addr.add; split <;> simp_all
theorem own_cells {w : World} {base : Nat} {E : TypeId} {s n : Nat} {v : Value} {xs : List Value} (h : w.ownsRow base E s v n xs) (hn : 0 < n) :
    ∃ g c, v = .slice (some ⟨g, 0, none⟩) n c ∧ base ≤ g ∧ g < w.heap.size ∧ n ≤ c ∧ ∀ j u, xs[j]? = some u → w.cell? ⟨g, j, none⟩ = some u := by
  obtain ⟨g, c, rfl, hg, hlt⟩ := h.form hn
  refine ⟨g, c, rfl, hg, hlt, ?_, fun j u hu => by have := h.cells (g := g) rfl j u hu; rwa [add_plain'] at this⟩
  rcases h.2 with ⟨h1, _⟩ | ⟨g', c', cur, h1, _, _, h2, _⟩
  · cases h1
  · injection h1 with _ _ h3; omega
theorem pcs_own {w : World} {B n c : Nat} {E : TypeId} {p : Option Addr} {L : List Pc} (h : w.ownsRow B E 4 (.slice p n c) n (pcC L)) (hl : L.length = n) : PcsIn w p L := by
  by_cases e : L = []
  · exact .inl e
  · have hn : 0 < n := by rw [← hl]; exact List.length_pos_iff.2 e
    obtain ⟨g, c', hv, -, -, -, hc⟩ := own_cells h hn
    injection hv with hv
    subst hv
    refine .inr ⟨g, 0, rfl, fun j hj => ?_⟩
    obtain ⟨a, b, d, f⟩ := pcC_at L j hj
    rw [Nat.zero_add]
    exact ⟨hc _ _ a, hc _ _ b, hc _ _ d, hc _ _ f⟩
/-- One piece in a row of its own. -/
def OneP (E : TypeId) (w : World) (g : Nat) (q : Pc) : Prop := w.heap[g]? = some (.cells #[.int .i64 q.1.1, .int .i64 q.1.2, .int .i64 q.2.1, .int .i64 q.2.2] E (0, 0))
theorem OneP.pcs {E : TypeId} {w : World} {g : Nat} {q : Pc} (h : OneP E w g q) : PcsIn w (some ⟨g, 0, none⟩) [q] := .inr ⟨g, 0, rfl, fun j hj => by
  obtain rfl : j = 0 := by simp at hj; omega
  unfold OneP at h
  refine ⟨?_, ?_, ?_, ?_⟩ <;> simp [World.cell?, h]⟩
section
variable {ops : Array Oper} {o : Oper} {a : Act} {w : World} {K : Act → World → Prop} {Q : Exit → Act → World → Prop} {G : Prop}
theorem op_bs1 {T E : TypeId} (hrun : ∀ (W : World) (x y z u : Int), (Instr.buildSlice T 1 #[(0, .agg #[.int .i64 x, .int .i64 y, .int .i64 z, .int .i64 u])]).run Try.prog W = .ok (.slice (some ⟨W.heap.size, 0, none⟩) 1 1) (W.alloc (.cells #[.int .i64 x, .int .i64 y, .int .i64 z, .int .i64 u] E)))
    (d : Tmp) (pO : Operand) (q : Pc) (hd : o.dst = some d) (ho : o.op = .buildSlice T 1 #[(0, pO)]) (hv : a.eval pO = .agg #[.int .i64 q.1.1, .int .i64 q.1.2, .int .i64 q.2.1, .int .i64 q.2.2])
    (h : ∀ g w', OneP E w' g q → g = w.heap.size → Below w.heap.size w w' → K (a.put (some d) (.slice (some ⟨g, 0, none⟩) 1 1)) w') : Oper.wp Try.prog o a w K Q := by
  unfold Oper.wp execOp
  simp only [ho, hv, Sem.run_bind, Sem.run_pure, Result.andThen_ok, List.map_toArray, List.map_cons, List.map_nil, hrun]
  rw [Oper.upon_value, hd]
  exact h _ _ (heap_new w _) rfl ((Below.refl _ _).alloc (Nat.le_refl _) _)
theorem op_app {T E : TypeId} (hT : Try.prog.underlying T = some (.slice E)) (hI : (Try.prog.info? E).map (fun i => (i.zero, i.size, i.bytes)) = some (some (.agg #[.int .i64 0, .int .i64 0, .int .i64 0, .int .i64 0]), 4, 32))
    (d : Tmp) (s x : Operand) (hd : o.dst = some d) (ho : o.op = .call { callee := .builtin .append, args := #[s, x], argTypes := #[T, T] })
    (B : Nat) (v : Value) (n : Nat) (xs : List Pc) (hs : a.eval s = v) (hown : w.ownsRow B E 4 v n (pcC xs)) (p : Option Addr) (m c : Nat) (ys : List Pc) (hx : a.eval x = .slice p m c) (hm : ys.length = m) (hD : PcsIn w p ys) (hn : n + m ≤ 100000) (hB : B ≤ w.heap.size)
    (h : ∀ v' w', w'.ownsRow B E 4 v' (n + m) (pcC (xs ++ ys)) → w.grownBy w' v.ownBlock → (v'.ownBlock = v.ownBlock ∨ v'.ownBlock = some w.heap.size) → K (a.put (some d) v') w') : Oper.wp Try.prog o a w K Q := by
  obtain ⟨i, hi, z1, z2, z3⟩ := info_parts (P := Try.prog) (e := E) (z := .agg #[.int .i64 0, .int .i64 0, .int .i64 0, .int .i64 0]) (size := 4) (bytes := 32) hI
  have hrun : ∃ v' w', (Builtin.append_ #[T, T] o.type #[v, .slice p m c]).run Try.prog w = .ok v' w' ∧ w'.ownsRow B E 4 v' (n + m) (pcC (xs ++ ys)) ∧ w.grownBy w' v.ownBlock ∧ (v'.ownBlock = v.ownBlock ∨ v'.ownBlock = some w.heap.size) := by
    rcases hp : p with _ | ad
    · have hm0 : ys = [] := by
        rcases hD with h1 | ⟨b, oo, h1, _⟩
        · exact h1
        · rw [hp] at h1; cases h1
      subst hm0
      obtain rfl : m = 0 := by simpa using hm.symm
      exact ⟨v, w, run_append_owned_none (P := Try.prog) (w := w) B T o.type E i 4 hT hi v n (pcC xs) hown, by simpa using hown, World.grownBy.refl w _, .inl rfl⟩
    · have hnews : ∀ j u, (pcC ys)[j]? = some u → w.cell? (ad.add j) = some u := fun j u hu => by
        obtain ⟨hq, u0, u1, u2, u3⟩ := pcC_get hu
        rcases hD with h1 | ⟨b, oo, h1, h2⟩
        · rw [h1] at hq; simp at hq
        · rw [hp] at h1
          obtain rfl := Option.some.inj h1
          obtain ⟨a0, a1, a2, a3⟩ := h2 (j / 4) hq
          rw [show (Addr.mk b oo none).add j = ⟨b, oo + j, none⟩ by unfold Addr.add; split <;> simp_all]
          rcases (show j % 4 = 0 ∨ j % 4 = 1 ∨ j % 4 = 2 ∨ j % 4 = 3 by omega) with e | e | e | e
          · rw [u0 e, ← a0, show oo + j / 4 * 4 = oo + j by omega]
          · rw [u1 e, ← a1, show oo + j / 4 * 4 + 1 = oo + j by omega]
          · rw [u2 e, ← a2, show oo + j / 4 * 4 + 2 = oo + j by omega]
          · rw [u3 e, ← a3, show oo + j / 4 * 4 + 3 = oo + j by omega]
      obtain ⟨v', w', r1, r2, r3, _, r5⟩ := run_append_own_at (P := Try.prog) w B T o.type E i (.agg #[.int .i64 0, .int .i64 0, .int .i64 0, .int .i64 0]) 4 32 hT hi z1 z2 z3 rfl (by decide) v n (pcC xs) hown ad m c (pcC ys) (by rw [pcC_len, hm]) hnews
        (fun u hu => by
          obtain ⟨j, hj⟩ := List.getElem?_of_mem hu
          obtain ⟨-, u0, u1, u2, u3⟩ := pcC_get hj
          rcases (show j % 4 = 0 ∨ j % 4 = 1 ∨ j % 4 = 2 ∨ j % 4 = 3 by omega) with e | e | e | e
          · rw [u0 e]; rfl
          · rw [u1 e]; rfl
          · rw [u2 e]; rfl
          · rw [u3 e]; rfl) (by unfold maxLen; omega) (by omega) hB
      exact ⟨v', w', r1, by rw [pcC_app]; exact r2, r3, r5⟩
  obtain ⟨v', w', r1, r2, r3, r4⟩ := hrun
  unfold Oper.wp execOp
  simp only [ho, resolve, invoke, builtin, Sem.run_bind, Sem.run_pure, Result.andThen_ok, List.map_toArray, List.map_cons, List.map_nil, hs, hx, r1]
  have := h v' w' r2 r3 r4
  rw [← hd] at this
  exact this
end
theorem run_bsP (W : World) (x y z u : Int) : (Instr.buildSlice 28 1 #[(0, .agg #[.int .i64 x, .int .i64 y, .int .i64 z, .int .i64 u])]).run Try.prog W = .ok (.slice (some ⟨W.heap.size, 0, none⟩) 1 1) (W.alloc (.cells #[.int .i64 x, .int .i64 y, .int .i64 z, .int .i64 u] 50)) := by
  kernel_rfl
theorem run_bsR (W : World) (x y z u : Int) : (Instr.buildSlice 37 1 #[(0, .agg #[.int .i64 x, .int .i64 y, .int .i64 z, .int .i64 u])]).run Try.prog W = .ok (.slice (some ⟨W.heap.size, 0, none⟩) 1 1) (W.alloc (.cells #[.int .i64 x, .int .i64 y, .int .i64 z, .int .i64 u] 64)) := by
  kernel_rfl
theorem infP : (Try.prog.info? 50).map (fun i => (i.zero, i.size, i.bytes)) = some (some (.agg #[.int .i64 0, .int .i64 0, .int .i64 0, .int .i64 0]), 4, 32) := by kernel_rfl
theorem infR : (Try.prog.info? 64).map (fun i => (i.zero, i.size, i.bytes)) = some (some (.agg #[.int .i64 0, .int .i64 0, .int .i64 0, .int .i64 0]), 4, 32) := by kernel_rfl

end Go.Proofs.Ytamglmenljgbdaa
