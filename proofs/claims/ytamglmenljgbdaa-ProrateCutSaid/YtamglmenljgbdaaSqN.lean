/-
  What is proved: what regions that draw their order keep of cells and of older memory, and what sets, spans and days that were there before are behind calls. Conditions: none.
-/
import Derived.Test.YtamglmenljgbdaaSqI
import Derived.Test.YtamglmenljgbdaaSqK
namespace Go.Proofs.Ytamglmenljgbdaa.Sp
open Go Go.RowKit Go.Proofs

theorem kp1 {W0 w : World} {a : Addr} {v : Value} (x : W0.cell? a = some v) (h : Below W0.heap.size W0 w) : w.cell? a = some v ∧ Below W0.heap.size W0 w := ⟨(h.cell (World.block_lt_of_cell? W0 _ x)).trans x, h⟩
theorem kp2 {W0 w : World} {a b : Addr} {v u : Value} (x : W0.cell? a = some v) (y : W0.cell? b = some u) (h : Below W0.heap.size W0 w) : (w.cell? a = some v ∧ w.cell? b = some u) ∧ Below W0.heap.size W0 w := ⟨⟨(kp1 x h).1, (kp1 y h).1⟩, h⟩
theorem kp3 {W0 w : World} {a b c : Addr} {v u t : Value} (x : W0.cell? a = some v) (y : W0.cell? b = some u) (z : W0.cell? c = some t) (h : Below W0.heap.size W0 w) : (w.cell? a = some v ∧ w.cell? b = some u ∧ w.cell? c = some t) ∧ Below W0.heap.size W0 w := ⟨⟨(kp1 x h).1, (kp1 y h).1, (kp1 z h).1⟩, h⟩
theorem kb_drew {W0 : World} : Below W0.heap.size W0 W0.drew := (Below.refl _ _).drew
theorem kb_alloc {C : Prop} {W0 w : World} {o : Obj} (h : C ∧ Below W0.heap.size W0 w) : Below W0.heap.size W0 (w.alloc o) := h.2.alloc h.2.size o
theorem kb_al {W0 w : World} {o : Obj} (h : Below W0.heap.size W0 w) : Below W0.heap.size W0 (w.alloc o) := h.alloc h.size o
theorem kc {W0 w w' : World} (hb : Below w.heap.size w w') (h : Below W0.heap.size W0 w) : Below W0.heap.size W0 w' := h.trans (hb.mono h.size)
theorem kb_call {C : Prop} {W0 w w' : World} (hb : Below w.heap.size w w') (h : C ∧ Below W0.heap.size W0 w) : Below W0.heap.size W0 w' := h.2.trans (hb.mono h.2.size)
theorem new_cell (w : World) (v : Value) (t : TypeId) : (w.alloc (.cells #[v] t)).cell? ⟨w.heap.size, 0, none⟩ = some v := by rw [World.cell?_alloc_new]; rfl
theorem kb_set' {W0 w : World} {b j : Nat} {u : Value} (h : Below W0.heap.size W0 w) (hb : W0.heap.size ≤ b) : Below W0.heap.size W0 (w.setCell ⟨b, j, none⟩ u) := h.setCell (p := ⟨b, j, none⟩) hb u
theorem kb_set {C D : Prop} {W0 w x : World} {j : Nat} {u : Value} (h : C ∧ Below W0.heap.size W0 w) (hX : D ∧ Below W0.heap.size W0 x) : Below W0.heap.size W0 (w.setCell ⟨x.heap.size, j, none⟩ u) := h.2.setCell (p := ⟨x.heap.size, j, none⟩) hX.2.size u
theorem IsSet.kp {C : Prop} {W0 w : World} {N : Nat} {P : Int → Bool} {v : Value} (h : IsSet W0 N P v) (k : C ∧ Below W0.heap.size W0 w) : IsSet w N P v := h.below k.2 (Nat.le_refl _)
theorem SpansIn.kp {C : Prop} {W0 w : World} {p : Option Addr} {L : List Sp} (h : SpansIn W0 p L) (k : C ∧ Below W0.heap.size W0 w) : SpansIn w p L := h.below k.2 (Nat.le_refl _)
theorem DaysIn.kp {C : Prop} {W0 w : World} {p : Option Addr} {L : List Int} (h : DaysIn W0 p L) (k : C ∧ Below W0.heap.size W0 w) : DaysIn w p L := h.below k.2 (Nat.le_refl _)

theorem SpansIn.put {w : World} {p : Option Addr} {K : List Sp} {g j : Nat} {u v : Value} (h : SpansIn w p K) (x : w.cell? ⟨g, j, none⟩ = some u) (hf : ∀ a, p = some a → g < a.block) : SpansIn (w.setCell ⟨g, j, none⟩ v) p K ∧ (w.setCell ⟨g, j, none⟩ v).cell? ⟨g, j, none⟩ = some v :=
  ⟨h.far _ _ (fun a ha => by have := hf a ha; show g ≠ a.block; omega), World.cell?_setCell_same _ _ _ x⟩
theorem FreshV.at {B : Nat} {p : Option Addr} {n c : Nat} (h : FreshV B (.agg #[.slice p n c])) : ∀ a, p = some a → B ≤ a.block := h p n c rfl
theorem Of_set (p : Option Addr) (c : Nat) (L : List Sp) (w : World) (hn : L.length ≤ 10000) (h64 : ∀ s ∈ L, in64 s.1 ∧ in64 s.2) (h : SpansIn w p L) :
    Calls Try.prog 23 #[.slice p L.length c] w (SetPost (2 * L.length) (fun d => hasB L d) w) :=
  (Of_any p c L w hn h64 h).mono fun _ _ h => h.post
theorem spans_new (w : World) (L : List Sp) (E : TypeId) : SpansIn (w.alloc (.cells (spC L).toArray E)) (some ⟨w.heap.size, 0, none⟩) L := by
  refine .inr ⟨_, 0, rfl, fun j hj => ?_⟩
  obtain ⟨a, b⟩ := spC_at L j hj
  rw [Nat.zero_add, World.cell?_alloc_new, World.cell?_alloc_new]
  exact ⟨by simpa using a, by simpa using b⟩
theorem days_new (w : World) (L : List Int) (E : TypeId) : DaysIn (w.alloc (.cells (dyC L).toArray E)) (some ⟨w.heap.size, 0, none⟩) L := by
  refine .inr ⟨_, 0, rfl, fun j hj => ?_⟩
  rw [Nat.zero_add, World.cell?_alloc_new]
  simpa using dyC_at L j hj
theorem eqlSpan (x y x' y' : Int) (W : World) : (binOp .eql 24 (.agg #[.int .i64 x, .int .i64 y]) (.agg #[.int .i64 x', .int .i64 y'])).run Try.prog W = .ok (.bool (x == x' && y == y')) W := by
  rw [run_eql_struct, run_equalIn_agg W 9999 _ _ _ structSpan stoodSpan]
  obtain ⟨f, g, hfg, f1, f2, f3, g1, g2, g3⟩ := fieldsSpan
  rw [hfg]
  have hu := Try.underlying22
  cases h1 : (x == x') <;> cases h2 : (y == y') <;> simp [Op.eqFields, f1, f2, f3, g1, g2, g3, go_sem, part, hu, h1, h2]

end Go.Proofs.Ytamglmenljgbdaa.Sp
