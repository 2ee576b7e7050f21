/-
  What is proved: how spans, ends and days lie in memory, what append leaves of them, and the contracts of span.isEmpty and span.leftEnds. Conditions: at most 100000 elements, which lie in memory as the contract says.
-/
import Derived.Test.YtamglmenljgbdaaRows
import Derived.Test.YtamglmenljgbdaaSqMathB
import Derived.WalkKit
import Derived.WalkSpells
import Derived.WalkLawsBesides
import Derived.Lib.Hide
import Derived.Below
import Derived.Laws.OwnMore
import Derived.Laws.AppendOwn
import Derived.Laws.AppendOwnNone
import Derived.Laws.MakeOwn
import Derived.Deep.AppendSrc
import Derived.Deep.AppendLies
import Derived.Deep.Draws
import Derived.Lib.AppendZeros
import Derived.Maps.AppendAt
namespace Go.Proofs.Ytamglmenljgbdaa.Sp
open Go Go.RowKit Go.Proofs

/-- Spans, ends and days as cells. -/
def spC (L : List Sp) : List Value := L.flatMap (fun s => [.int .i64 s.1, .int .i64 s.2])
def evC (L : List Ev) : List Value := L.flatMap (fun e => [.int .i64 e.1, .int .i64 e.2.1, .int .i64 e.2.2])
def dyC (L : List Int) : List Value := L.map (fun d => .int .i64 d)
theorem spC_len : ∀ L, (spC L).length = L.length * 2
  | [] => rfl
  | s :: r => by show (spC r).length + 2 = _; rw [spC_len r]; simp; omega
theorem evC_len : ∀ L, (evC L).length = L.length * 3
  | [] => rfl
  | s :: r => by show (evC r).length + 3 = _; rw [evC_len r]; simp; omega
theorem dyC_len (L : List Int) : (dyC L).length = L.length := by simp [dyC]
theorem spC_app (K L : List Sp) : spC (K ++ L) = spC K ++ spC L := by simp [spC]
theorem evC_app (K L : List Ev) : evC (K ++ L) = evC K ++ evC L := by simp [evC]
theorem dyC_app (K L : List Int) : dyC (K ++ L) = dyC K ++ dyC L := by simp [dyC]
theorem spC_at : ∀ (L : List Sp) (j : Nat), j < L.length → (spC L)[j * 2]? = some (.int .i64 (L.getD j (0, 0)).1) ∧ (spC L)[j * 2 + 1]? = some (.int .i64 (L.getD j (0, 0)).2)
  | s :: r, 0, _ => ⟨rfl, rfl⟩
  | s :: r, j + 1, h => by
    obtain ⟨a, b⟩ := spC_at r j (by simpa using h)
    rw [show (j + 1) * 2 = j * 2 + 2 by omega]
    exact ⟨a, b⟩
theorem evC_at : ∀ (L : List Ev) (j : Nat), j < L.length → (evC L)[j * 3]? = some (.int .i64 (L.getD j (0, 0, 0)).1) ∧ (evC L)[j * 3 + 1]? = some (.int .i64 (L.getD j (0, 0, 0)).2.1) ∧ (evC L)[j * 3 + 2]? = some (.int .i64 (L.getD j (0, 0, 0)).2.2)
  | s :: r, 0, _ => ⟨rfl, rfl, rfl⟩
  | s :: r, j + 1, h => by
    obtain ⟨a, b, c⟩ := evC_at r j (by simpa using h)
    rw [show (j + 1) * 3 = j * 3 + 3 by omega]
    exact ⟨a, b, c⟩
theorem dyC_at (L : List Int) (j : Nat) (h : j < L.length) : (dyC L)[j]? = some (.int .i64 (L.getD j 0)) := by
  simp [dyC, h]
theorem spC_one {L : List Sp} : ∀ u ∈ spC L, u.oneCell' = true := fun u hu => by
  simp only [spC, List.mem_flatMap] at hu
  obtain ⟨s, -, hu⟩ := hu
  simp at hu
  rcases hu with rfl | rfl <;> rfl
theorem evC_one {L : List Ev} : ∀ u ∈ evC L, u.oneCell' = true := fun u hu => by
  simp only [evC, List.mem_flatMap] at hu
  obtain ⟨s, -, hu⟩ := hu
  simp at hu
  rcases hu with rfl | rfl | rfl <;> rfl
theorem dyC_one {L : List Int} : ∀ u ∈ dyC L, u.oneCell' = true := fun u hu => by
  simp only [dyC, List.mem_map] at hu
  obtain ⟨s, -, rfl⟩ := hu
  rfl

/-- Spans, ends and days lie in memory. -/
def SpansIn (w : World) (p : Option Addr) (L : List Sp) : Prop :=
  L = [] ∨ ∃ b o, p = some ⟨b, o, none⟩ ∧ ∀ j, j < L.length → w.cell? ⟨b, o + j * 2, none⟩ = some (.int .i64 (L.getD j (0, 0)).1) ∧ w.cell? ⟨b, o + j * 2 + 1, none⟩ = some (.int .i64 (L.getD j (0, 0)).2)
def EvsIn (w : World) (p : Option Addr) (L : List Ev) : Prop :=
  L = [] ∨ ∃ b o, p = some ⟨b, o, none⟩ ∧ ∀ j, j < L.length → w.cell? ⟨b, o + j * 3, none⟩ = some (.int .i64 (L.getD j (0, 0, 0)).1) ∧ w.cell? ⟨b, o + j * 3 + 1, none⟩ = some (.int .i64 (L.getD j (0, 0, 0)).2.1) ∧ w.cell? ⟨b, o + j * 3 + 2, none⟩ = some (.int .i64 (L.getD j (0, 0, 0)).2.2)
def DaysIn (w : World) (p : Option Addr) (L : List Int) : Prop :=
  L = [] ∨ ∃ b o, p = some ⟨b, o, none⟩ ∧ ∀ j, j < L.length → w.cell? ⟨b, o + j, none⟩ = some (.int .i64 (L.getD j 0))
theorem SpansIn.below {w w' : World} {p : Option Addr} {L : List Sp} {B : Nat} (h : SpansIn w p L) (hb : Below B w w') (hB : w.heap.size ≤ B) : SpansIn w' p L := by
  rcases h with h | ⟨b, o, rfl, hc⟩
  · exact .inl h
  · refine .inr ⟨b, o, rfl, fun j hj => ?_⟩
    obtain ⟨h1, h2⟩ := hc j hj
    have hbl : b < w.heap.size := World.block_lt_of_cell? w _ h1
    exact ⟨(hb.cell (p := ⟨b, o + j * 2, none⟩) (Nat.lt_of_lt_of_le hbl hB)).trans h1, (hb.cell (p := ⟨b, o + j * 2 + 1, none⟩) (Nat.lt_of_lt_of_le hbl hB)).trans h2⟩
theorem EvsIn.below {w w' : World} {p : Option Addr} {L : List Ev} {B : Nat} (h : EvsIn w p L) (hb : Below B w w') (hB : w.heap.size ≤ B) : EvsIn w' p L := by
  rcases h with h | ⟨b, o, rfl, hc⟩
  · exact .inl h
  · refine .inr ⟨b, o, rfl, fun j hj => ?_⟩
    obtain ⟨h1, h2, h3⟩ := hc j hj
    have hbl : b < w.heap.size := World.block_lt_of_cell? w _ h1
    exact ⟨(hb.cell (p := ⟨b, o + j * 3, none⟩) (Nat.lt_of_lt_of_le hbl hB)).trans h1, (hb.cell (p := ⟨b, o + j * 3 + 1, none⟩) (Nat.lt_of_lt_of_le hbl hB)).trans h2, (hb.cell (p := ⟨b, o + j * 3 + 2, none⟩) (Nat.lt_of_lt_of_le hbl hB)).trans h3⟩
theorem DaysIn.below {w w' : World} {p : Option Addr} {L : List Int} {B : Nat} (h : DaysIn w p L) (hb : Below B w w') (hB : w.heap.size ≤ B) : DaysIn w' p L := by
  rcases h with h | ⟨b, o, rfl, hc⟩
  · exact .inl h
  · refine .inr ⟨b, o, rfl, fun j hj => ?_⟩
    have h1 := hc j hj
    have hbl : b < w.heap.size := World.block_lt_of_cell? w _ h1
    exact (hb.cell (p := ⟨b, o + j, none⟩) (Nat.lt_of_lt_of_le hbl hB)).trans h1
theorem SpansIn.far {w : World} {p : Option Addr} {L : List Sp} (h : SpansIn w p L) (a : Addr) (v : Value) (hne : ∀ b, p = some b → a.block ≠ b.block) : SpansIn (w.setCell a v) p L := by
  rcases h with h | ⟨b, o, rfl, hc⟩
  · exact .inl h
  · have hb := hne _ rfl
    refine .inr ⟨b, o, rfl, fun j hj => ?_⟩
    obtain ⟨h1, h2⟩ := hc j hj
    exact ⟨(World.cell?_setCell_other _ _ _ _ (fun e => by subst e; exact hb rfl)).trans h1, (World.cell?_setCell_other _ _ _ _ (fun e => by subst e; exact hb rfl)).trans h2⟩
theorem add_at (g j : Nat) : (⟨g, 0, none⟩ : Addr).add j = ⟨g, j, none⟩ := by
  unfold Addr.add
  by_cases h : j = 0 <;> simp [h]
theorem own_cells {w : World} {base : Nat} {E : TypeId} {s n : Nat} {v : Value} {xs : List Value} (h : w.ownsRow base E s v n xs) (hn : 0 < n) :
    ∃ g c, v = .slice (some ⟨g, 0, none⟩) n c ∧ base ≤ g ∧ g < w.heap.size ∧ n ≤ c ∧ ∀ j u, xs[j]? = some u → w.cell? ⟨g, j, none⟩ = some u := by
  obtain ⟨g, c, rfl, hg, hlt⟩ := h.form hn
  refine ⟨g, c, rfl, hg, hlt, ?_, fun j u hu => by have := h.cells (g := g) rfl j u hu; rwa [add_at] at this⟩
  rcases h.2 with ⟨h1, _⟩ | ⟨g', c', cur, h1, _, _, h2, _⟩
  · cases h1
  · injection h1 with _ _ h3; omega
theorem SpansIn.of_own {w : World} {base : Nat} {E : TypeId} {p : Option Addr} {n c : Nat} {L : List Sp} (h : w.ownsRow base E 2 (.slice p n c) L.length (spC L)) : SpansIn w p L := by
  by_cases e : L.length = 0
  · exact .inl (List.eq_nil_of_length_eq_zero e)
  · obtain ⟨g, c', hv, -, -, -, hc⟩ := own_cells h (by omega)
    injection hv with hv
    subst hv
    refine .inr ⟨g, 0, rfl, fun j hj => ?_⟩
    obtain ⟨a, b⟩ := spC_at L j hj
    rw [Nat.zero_add]
    exact ⟨hc _ _ a, hc _ _ b⟩
theorem EvsIn.of_own {w : World} {base : Nat} {E : TypeId} {p : Option Addr} {n c : Nat} {L : List Ev} (h : w.ownsRow base E 3 (.slice p n c) L.length (evC L)) : EvsIn w p L := by
  by_cases e : L.length = 0
  · exact .inl (List.eq_nil_of_length_eq_zero e)
  · obtain ⟨g, c', hv, -, -, -, hc⟩ := own_cells h (by omega)
    injection hv with hv
    subst hv
    refine .inr ⟨g, 0, rfl, fun j hj => ?_⟩
    obtain ⟨a, b, d⟩ := evC_at L j hj
    rw [Nat.zero_add]
    exact ⟨hc _ _ a, hc _ _ b, hc _ _ d⟩
theorem DaysIn.of_own {w : World} {base : Nat} {E : TypeId} {p : Option Addr} {n c : Nat} {L : List Int} (h : w.ownsRow base E 1 (.slice p n c) L.length (dyC L)) : DaysIn w p L := by
  by_cases e : L.length = 0
  · exact .inl (List.eq_nil_of_length_eq_zero e)
  · obtain ⟨g, c', hv, -, -, -, hc⟩ := own_cells h (by omega)
    injection hv with hv
    subst hv
    refine .inr ⟨g, 0, rfl, fun j hj => ?_⟩
    rw [Nat.zero_add]
    exact hc _ _ (dyC_at L j hj)
/-- A row of a call's own is a slice of that many. -/
theorem own_slice {w : World} {base : Nat} {E : TypeId} {s n : Nat} {v : Value} {xs : List Value} (h : w.ownsRow base E s v n xs) : ∃ p c, v = .slice p n c ∧ n ≤ c := by
  rcases h.2 with ⟨rfl, rfl⟩ | ⟨g, c, cur, rfl, _, _, h2, _⟩
  · exact ⟨none, 0, rfl, Nat.le_refl _⟩
  · exact ⟨_, _, rfl, h2⟩
theorem own_below {w w' : World} {base B : Nat} {E : TypeId} {s n : Nat} {v : Value} {xs : List Value} (h : w.ownsRow base E s v n xs) (hb : Below B w w') (hB : w.heap.size ≤ B) : w'.ownsRow base E s v n xs := by
  obtain ⟨h1, h2⟩ := h
  refine ⟨h1, ?_⟩
  rcases h2 with h2 | ⟨g, c, cur, rfl, hg, hh, h3⟩
  · exact .inl h2
  · have hlt : g < w.heap.size := by
      rcases Nat.lt_or_ge g w.heap.size with hlt | hge
      · exact hlt
      · rw [Array.getElem?_eq_none hge] at hh; cases hh
    exact .inr ⟨g, c, cur, rfl, hg, (hb.block g (by omega)).trans hh, h3⟩
theorem Below.drewsN {B : Nat} {w w' : World} (h : Below B w w') (n : Nat) : Below B w (w'.drewN n) := ⟨h.os, h.tape, h.output, h.size, h.block⟩
theorem info_of {P : Program} {t : TypeId} {z : Option Value} {s b : Nat} (h : (P.info? t).map (fun i => (i.zero, i.size, i.bytes)) = some (z, s, b)) : ∃ i, P.info? t = some i ∧ i.zero = z ∧ i.size = s ∧ i.bytes = b := by
  obtain ⟨i, hi, he⟩ := Option.map_eq_some_iff.1 h
  injection he with h1 h2
  injection h2 with h2 h3
  exact ⟨i, hi, h1, h2, h3⟩
theorem infoSpan : (Try.prog.info? 24).map (fun i => (i.zero, i.size, i.bytes)) = some (some (.agg #[.int .i64 0, .int .i64 0]), 2, 16) := by kernel_rfl
theorem infoEnd : (Try.prog.info? 103).map (fun i => (i.zero, i.size, i.bytes)) = some (some (.agg #[.int .i64 0, .int .i64 0, .int .i64 0]), 3, 24) := by kernel_rfl
theorem infoDay : (Try.prog.info? 22).map (fun i => (i.zero, i.size, i.bytes)) = some (some (.int .i64 0), 1, 8) := by kernel_rfl
/-- append of elements that were built for it. -/
theorem app_new {T E : TypeId} {z : Value} {s b : Nat} (hT : Try.prog.underlying T = some (.slice E)) (hI : (Try.prog.info? E).map (fun i => (i.zero, i.size, i.bytes)) = some (some z, s, b)) (hz : z.cells.size = s) (hs : 0 < s) (hb : b ≤ 64) (base : Nat) (ty : TypeId) (w : World) (v : Value) (n : Nat) (xs : List Value) (hown : w.ownsRow base E s v n xs)
    (m : Nat) (news : List Value) (hl : news.length = m * s) (h1 : ∀ u ∈ news, u.oneCell' = true) (hn : n + m ≤ 1000000) (hbase : base ≤ w.heap.size) :
    ∃ v' w', (Builtin.append_ #[T, T] ty #[v, .slice (some ⟨w.heap.size, 0, none⟩) m m]).run Try.prog (w.alloc (.cells news.toArray E)) = .ok v' w' ∧ w'.ownsRow base E s v' (n + m) (xs ++ news) ∧ (w.alloc (.cells news.toArray E)).grownBy w' v.ownBlock ∧ (v'.ownBlock = v.ownBlock ∨ v'.ownBlock = some (w.heap.size + 1)) := by
  obtain ⟨i, hi, hz0, hz1, hz2⟩ := info_of hI
  have hm : (n + m) * b ≤ 1000000 * 64 := Nat.mul_le_mul hn hb
  obtain ⟨v', w', h1, h2, h3, _, h4⟩ := run_append_own_at (P := Try.prog) (w.alloc (.cells news.toArray E)) base T ty E i z s b hT hi hz0 hz1 hz2 hz hs v n xs (hown.alloc _) ⟨w.heap.size, 0, none⟩ m m news hl
    (fun j u hu => by rw [add_at, World.cell?_alloc_new]; simpa using hu)
    h1 (by unfold maxLen; omega) (by omega) (by simp; omega)
  exact ⟨v', w', h1, h2, h3, by simpa using h4⟩
theorem app_arm {T E : TypeId} {z : Value} {s b : Nat} (hT : Try.prog.underlying T = some (.slice E)) (hI : (Try.prog.info? E).map (fun i => (i.zero, i.size, i.bytes)) = some (some z, s, b)) (hz : z.cells.size = s) (hs : 0 < s) (hb : b ≤ 64) (base : Nat) (w : World) (v : Value) (n : Nat) (xs : List Value) (hown : w.ownsRow base E s v n xs)
    (m : Nat) (news : List Value) (hl : news.length = m * s) (h1 : ∀ u ∈ news, u.oneCell' = true) (hn : n + m ≤ 1000000) (hbase : base ≤ w.heap.size)
    {ops : Array Oper} {rest : List Oper} {o : Oper} {a : Act} {Q : Exit → Act → World → Prop} (hgd : o.guard = none) (sO xO : Operand) (ho : o.op = .call { callee := .builtin .append, args := #[sO, xO], argTypes := #[T, T] }) (hv : a.eval sO = v) (hx : a.eval xO = .slice (some ⟨w.heap.size, 0, none⟩) m m)
    (h : ∀ v' w', w'.ownsRow base E s v' (n + m) (xs ++ news) → (w.alloc (.cells news.toArray E)).grownBy w' v.ownBlock → wpList Try.prog ops Q rest (a.put o.dst v') w') : wpList Try.prog ops Q (o :: rest) a (w.alloc (.cells news.toArray E)) := by
  obtain ⟨v', w', hr, h2, h3, -⟩ := app_new hT hI hz hs hb base o.type w v n xs hown m news hl h1 hn hbase
  exact Lib.wpList_append_run _ hgd sO xO T T ho v _ hv hx v' w' hr (h v' w' h2 h3)
theorem app_arm_at {T E : TypeId} {z : Value} {s b : Nat} (hT : Try.prog.underlying T = some (.slice E)) (hI : (Try.prog.info? E).map (fun i => (i.zero, i.size, i.bytes)) = some (some z, s, b)) (hz : z.cells.size = s) (hs : 0 < s) (hb : b ≤ 64) (base : Nat) (w : World) (v : Value) (n : Nat) (xs : List Value) (hown : w.ownsRow base E s v n xs)
    (m : Nat) (news : List Value) (hl : news.length = m * s) (h1 : ∀ u ∈ news, u.oneCell' = true) (hn : n + m ≤ 1000000) (hbase : base ≤ w.heap.size)
    {ops : Array Oper} {rest : List Oper} {o : Oper} {a : Act} {Q : Exit → Act → World → Prop} (hgd : o.guard = none) (sO xO : Operand) (ho : o.op = .call { callee := .builtin .append, args := #[sO, xO], argTypes := #[T, T] }) (hv : a.eval sO = v) (hx : a.eval xO = .slice (some ⟨w.heap.size, 0, none⟩) m m)
    (h : ∀ v' w', w'.ownsRow base E s v' (n + m) (xs ++ news) → (w.alloc (.cells news.toArray E)).grownBy w' v.ownBlock → (v'.ownBlock = v.ownBlock ∨ v'.ownBlock = some (w.heap.size + 1)) → wpList Try.prog ops Q rest (a.put o.dst v') w') : wpList Try.prog ops Q (o :: rest) a (w.alloc (.cells news.toArray E)) := by
  obtain ⟨v', w', hr, h2, h3, h4⟩ := app_new hT hI hz hs hb base o.type w v n xs hown m news hl h1 hn hbase
  exact Lib.wpList_append_run _ hgd sO xO T T ho v _ hv hx v' w' hr (h v' w' h2 h3 h4)
/-- append of a slice that lies somewhere, nil or not. -/
theorem app_src {T E : TypeId} {z : Value} {s b : Nat} (hT : Try.prog.underlying T = some (.slice E)) (hI : (Try.prog.info? E).map (fun i => (i.zero, i.size, i.bytes)) = some (some z, s, b)) (hz : z.cells.size = s) (hs : 0 < s) (hb : b ≤ 64) (base : Nat) (ty : TypeId) (w : World) (v : Value) (n : Nat) (xs : List Value) (hown : w.ownsRow base E s v n xs)
    (p : Option Addr) (m c : Nat) (news : List Value) (hl : news.length = m * s) (hp : p = none ∧ m = 0 ∧ c = 0 ∨ ∃ a, p = some a ∧ ∀ j u, news[j]? = some u → w.cell? (a.add j) = some u) (h1 : ∀ u ∈ news, u.oneCell' = true) (hn : n + m ≤ 1000000) (hbase : base ≤ w.heap.size) :
    ∃ v' w', (Builtin.append_ #[T, T] ty #[v, .slice p m c]).run Try.prog w = .ok v' w' ∧ w'.ownsRow base E s v' (n + m) (xs ++ news) ∧ w.grownBy w' v.ownBlock := by
  obtain ⟨i, hi, hz0, hz1, hz2⟩ := info_of hI
  have hm : (n + m) * b ≤ 1000000 * 64 := Nat.mul_le_mul hn hb
  rcases hp with ⟨rfl, rfl, rfl⟩ | ⟨a, rfl, hc⟩
  · have : news = [] := List.eq_nil_of_length_eq_zero (by omega)
    subst this
    exact ⟨v, w, run_append_owned_none (P := Try.prog) (w := w) base T ty E i s hT hi v n xs hown, by simpa using hown, World.grownBy.refl w _⟩
  · obtain ⟨v', w', h1, h2, h3, _⟩ := run_append_own (P := Try.prog) w base T ty E i z s b hT hi hz0 hz1 hz2 hz hs v n xs hown a m c news hl hc h1 (by unfold maxLen; omega) (by omega) hbase
    exact ⟨v', w', h1, h2, h3⟩

/-- Is a span empty? -/
def emB (s : Sp) : Bool := decide (s.2 ≤ s.1)
theorem isEmpty_any (a b : Int) (w : World) : Calls Try.prog 53 #[.agg #[.int .i64 a, .int .i64 b]] w fun e w' => e = .returned (.bool (emB (a, b))) ∧ Below w.heap.size w w' := by
  by_cases h : b ≤ a
  · rw [show emB (a, b) = true by simp [emB, h]]
    go_enter Try.func53, Try.ntmps53
    go_wp2
    go_ret
    exact ⟨rfl, (Below.refl _ _).alloc (Nat.le_refl _) _⟩
  · rw [show emB (a, b) = false by simp [emB, h]]
    go_enter Try.func53, Try.ntmps53
    go_wp2
    go_ret
    exact ⟨rfl, (Below.refl _ _).alloc (Nat.le_refl _) _⟩

theorem endsL_yes {x y : Int} (h : x < y) : endsL [(x, y)] = [(x, 1, 0), (y, -1, 0)] := by simp only [endsL, List.append_nil]; rw [if_neg (by show ¬ y ≤ x; omega)]
theorem endsL_none {x y : Int} (h : y ≤ x) : endsL [(x, y)] = [] := by simp only [endsL, List.append_nil]; rw [if_pos h]
/-- A call that returns ends of its own. -/
def EvOwn (E : List Ev) (w : World) (e : Ending) (w' : World) : Prop := ∃ v, e = .returned v ∧ w'.ownsRow w.heap.size 103 3 v E.length (evC E) ∧ Below w.heap.size w w'

theorem take_next {α : Type} (L : List α) (z : α) {k : Nat} (h : k < L.length) : L.take (k + 1) = L.take k ++ [L.getD k z] := by
  rw [List.take_succ_eq_append_getElem h, getD_at L z h]

set_option maxHeartbeats 1000000 in
set_option maxRecDepth 100000 in
theorem leftEnds_any (p : Option Addr) (c : Nat) (L : List Sp) (w : World) (hn : L.length ≤ 100000) (h : SpansIn w p L) :
    Calls Try.prog 41 #[.slice p L.length c] w (EvOwn (endsL L) w) := by
  have HI := Lib.hid h
  clear h
  obtain ⟨n, hnl⟩ : ∃ n, n = L.length := ⟨_, rfl⟩
  rw [← hnl] at hn ⊢
  have HN := Lib.hid hnl
  clear hnl
  go_enter Try.func41, Try.ntmps41
  go_wp2
  go_loopw [3, 5, 8] (fun v _ kv wr => ∃ (k : Nat) (q : Value) (m : Nat), k ≤ n ∧ kv = .int .i64 k ∧ q = v ∧ Hid (m = (endsL (L.take k)).length) ∧ Hid (wr.ownsRow w.heap.size 103 3 q m (evC (endsL (L.take k)))) ∧ Below w.heap.size w wr) (fun _ _ kv _ => n - (RowKit.intOf kv).toNat)
  case atStart => exact ⟨0, _, 0, by omega, rfl, rfl, Lib.hid rfl, Lib.hid (World.ownsRow_nil _ _ _ _), Below.refl _ _⟩
  case round =>
    obtain ⟨k, q, m, hk, rfl, rfl, HM, HO, hb⟩ := hrel
    by_cases hlt : k < n
    · have hlt' : k < L.length := by rw [← HN.out]; exact hlt
      have htk := take_next L (0, 0) hlt'
      rcases HI.out with h | ⟨b, o, rfl, hc⟩
      · rw [h] at hlt'; simp at hlt'
      obtain ⟨c1, c2⟩ := hc k hlt'
      have hbl : b < w.heap.size := World.block_lt_of_cell? w _ c1
      have e1 := (hb.cell (p := ⟨b, o + k * 2, none⟩) hbl).trans c1
      have e2 := (hb.cell (p := ⟨b, o + k * 2 + 1, none⟩) hbl).trans c2
      have i1 : (k : Int) < (n : Int) := by omega
      have hm : m ≤ 2 * k := by
        have := endsL_len (L.take k)
        rw [HM.out]
        simp at this
        omega
      have HT := Lib.hid htk
      clear c1 c2 hc HI htk hlt'
      generalize L.getD k (0, 0) = s at e1 e2 HT
      obtain ⟨x, y⟩ := s
      dsimp only at e1 e2
      obtain ⟨G, hG⟩ : ∃ G, G = wr.heap.size := ⟨_, rfl⟩
      have hGw : w.heap.size ≤ G := by rw [hG]; exact hb.size
      have hb1 := hb.alloc hb.size (.cells #[.int .i64 x, .int .i64 y] 24)
      have HO1 := Lib.hid (HO.out.alloc (.cells #[.int .i64 x, .int .i64 y] 24))
      have x1 : (wr.alloc (.cells #[.int .i64 x, .int .i64 y] 24)).cell? ⟨wr.heap.size, 0, none⟩ = some (.int .i64 x) := by rw [World.cell?_alloc_new]; rfl
      have x2 : (wr.alloc (.cells #[.int .i64 x, .int .i64 y] 24)).cell? ⟨wr.heap.size, 1, none⟩ = some (.int .i64 y) := by rw [World.cell?_alloc_new]; rfl
      have hz1 : (wr.alloc (.cells #[.int .i64 x, .int .i64 y] 24)).heap.size = wr.heap.size + 1 := by simp
      clear HO hb
      cases he : emB (x, y)
      · have hne : ¬ y ≤ x := by simpa [emB] using he
        go_wp2_with fail
        refine (isEmpty_any _ _ _).mono ?_
        rintro e w2 ⟨rfl, hb2⟩
        rw [he]
        have y1 := (hb2.cell (p := ⟨wr.heap.size, 0, none⟩) (by show wr.heap.size < _; omega)).trans x1
        have y2 := (hb2.cell (p := ⟨wr.heap.size, 1, none⟩) (by show wr.heap.size < _; omega)).trans x2
        have hb3 := hb1.trans (hb2.mono (by omega))
        have HO2 := own_below HO1.out hb2 (Nat.le_refl _)
        obtain ⟨v', w3, hr, ho, hg, -⟩ := app_new Try.underlying77 infoEnd rfl (by omega) (by omega) w.heap.size 77 w2 _ m _ HO2 2 [.int .i64 x, .int .i64 1, .int .i64 0, .int .i64 y, .int .i64 (-1), .int .i64 0] rfl (fun u hu => by simp at hu; rcases hu with rfl | rfl | rfl | rfl | rfl | rfl <;> rfl) (by omega) hb3.size
        have hb4 : Below w.heap.size w w3 := (hb3.alloc hb3.size _).grown hg (by simp; have := hb3.size; omega) (fun k hk => (HO2.lt k hk).1)
        have HO3 := Lib.hid ho
        have R1 := Lib.hid hr
        clear x1 x2 hz1 HO1 HO2 hb1 hb2 hb3 hg ho hG hGw hr
        go_wp2_with (at_builtin; refine Lib.wpList_append_run _ rfl _ _ 77 77 rfl _ _ rfl rfl v' w3 (R1.out) ?_)
        refine ⟨⟨k + 1, v', m + 2, by omega, by go_num, rfl, Lib.hid ?_, Lib.hid ?_, hb4⟩, by simp [RowKit.intOf]; omega⟩
        · rw [HT.out, endsL_app, List.length_append, ← HM.out, endsL_yes (by omega)]; rfl
        · have h := HO3.out
          rw [HT.out, endsL_app, evC_app, endsL_yes (by omega)]
          exact h
      · have hne : y ≤ x := by simpa [emB] using he
        go_wp2_with fail
        refine (isEmpty_any _ _ _).mono ?_
        rintro e w2 ⟨rfl, hb2⟩
        rw [he]
        have hb3 := hb1.trans (hb2.mono (by omega))
        have HO2 := Lib.hid (own_below HO1.out hb2 (Nat.le_refl _))
        clear x1 x2 hz1 HO1 hb1 hb2 hG hGw
        go_wp2
        refine ⟨⟨k + 1, q, m, by omega, by go_num, rfl, Lib.hid ?_, Lib.hid ?_, hb3⟩, by simp [RowKit.intOf]; omega⟩
        · rw [HT.out, endsL_app, List.length_append, ← HM.out, endsL_none (by omega)]; rfl
        · have h := HO2.out
          rw [HT.out, endsL_app, evC_app, endsL_none (by omega)]
          simpa [evC] using h
    · obtain rfl : n = k := by omega
      have hal : L.take n = L := by rw [HN.out]; exact List.take_length
      rw [hal] at HM HO
      have HA := HO.out
      rw [HM.out] at HA
      have HA' := Lib.hid HA
      clear HM HO HA hal
      go_wp2
      go_ret
      exact ⟨_, rfl, HA'.out, hb⟩

end Go.Proofs.Ytamglmenljgbdaa.Sp
