/-
  What is proved: how periods lie in memory, and what append leaves of them. Conditions: as each says.
-/
import Derived.Test.YtfmabjfibjnkoaaDoorPdB
import Derived.Laws.AppendOwn
import Derived.Laws.AppendOwnNone
import Derived.Laws.OwnMore
import Derived.Deep.AppendLies
import Derived.Deep.AppendSrc
import Derived.Maps.AppendAt
import Derived.Deep.Draws
namespace Go.Proofs.YtfmabjfibjnkoaaDoor
open Go Go.RowKit Go.Proofs
set_option linter.unusedVariables false

/-- Periods of a year as cells, the first of them with the number i + 1. -/
def perC (y n l : Int) : Nat → List (Int × Int) → List Value
  | _, [] => []
  | i, s :: r => [.int .i64 y, .int .i64 ((i + 1 : Nat) : Int), .int .i64 n, .int .i64 s.1, .int .i64 s.2, .int .i64 (payV s.2 l)] ++ perC y n l (i + 1) r
theorem perC_len (y n l : Int) : ∀ (K : List (Int × Int)) (i : Nat), (perC y n l i K).length = K.length * 6
  | [], _ => rfl
  | s :: r, i => by
    show (([.int .i64 y, .int .i64 ((i + 1 : Nat) : Int), .int .i64 n, .int .i64 s.1, .int .i64 s.2, .int .i64 (payV s.2 l)] : List Value) ++ perC y n l (i + 1) r).length = (r.length + 1) * 6
    rw [List.length_append, perC_len y n l r]; simp; omega
theorem perC_app (y n l : Int) (s : Int × Int) : ∀ (K : List (Int × Int)) (i : Nat), perC y n l i (K ++ [s]) = perC y n l i K ++ [.int .i64 y, .int .i64 ((i + K.length + 1 : Nat) : Int), .int .i64 n, .int .i64 s.1, .int .i64 s.2, .int .i64 (payV s.2 l)]
  | [], i => rfl
  | t :: r, i => by
    show _ ++ perC y n l (i + 1) (r ++ [s]) = _
    rw [perC_app y n l s r (i + 1), show i + 1 + r.length + 1 = i + (t :: r).length + 1 by simp; omega, ← List.append_assoc]; rfl
theorem perC_one (y n l : Int) : ∀ (K : List (Int × Int)) (i : Nat), ∀ u ∈ perC y n l i K, u.oneCell' = true
  | [], _, u, hu => by cases hu
  | s :: r, i, u, hu => by
    rcases List.mem_append.1 hu with h | h
    · simp at h; rcases h with rfl | rfl | rfl | rfl | rfl | rfl <;> rfl
    · exact perC_one y n l r (i + 1) u h
theorem perC_at (y n l : Int) : ∀ (K : List (Int × Int)) (i k : Nat), k < K.length →
    (perC y n l i K)[k * 6]? = some (.int .i64 y) ∧ (perC y n l i K)[k * 6 + 1]? = some (.int .i64 ((i + k + 1 : Nat) : Int)) ∧ (perC y n l i K)[k * 6 + 2]? = some (.int .i64 n) ∧
    (perC y n l i K)[k * 6 + 3]? = some (.int .i64 (K.getD k (0, 0)).1) ∧ (perC y n l i K)[k * 6 + 4]? = some (.int .i64 (K.getD k (0, 0)).2) ∧ (perC y n l i K)[k * 6 + 5]? = some (.int .i64 (payV (K.getD k (0, 0)).2 l))
  | s :: r, i, 0, _ => ⟨rfl, rfl, rfl, rfl, rfl, rfl⟩
  | s :: r, i, k + 1, h => by
    obtain ⟨a, b, c, d, e, f⟩ := perC_at y n l r (i + 1) k (by simpa using h)
    have e0 : ∀ j, (perC y n l i (s :: r))[(k + 1) * 6 + j]? = (perC y n l (i + 1) r)[k * 6 + j]? := fun j => by
      show (([.int .i64 y, .int .i64 ((i + 1 : Nat) : Int), .int .i64 n, .int .i64 s.1, .int .i64 s.2, .int .i64 (payV s.2 l)] : List Value) ++ perC y n l (i + 1) r)[(k + 1) * 6 + j]? = _
      rw [List.getElem?_append_right (by simp; omega)]
      congr 1
      simp; omega
    refine ⟨(e0 0).trans a, ?_, (e0 2).trans c, (e0 3).trans d, (e0 4).trans e, (e0 5).trans f⟩
    rw [e0 1, b]
    congr 2
    omega
/-- Periods of a year in memory. -/
def PersIn (w : World) (p : Option Addr) (y n l : Int) (K : List (Int × Int)) : Prop :=
  K = [] ∨ ∃ b o, p = some ⟨b, o, none⟩ ∧ ∀ k, k < K.length → w.cell? ⟨b, o + k * 6, none⟩ = some (.int .i64 y) ∧ w.cell? ⟨b, o + k * 6 + 1, none⟩ = some (.int .i64 ((k + 1 : Nat) : Int)) ∧ w.cell? ⟨b, o + k * 6 + 2, none⟩ = some (.int .i64 n) ∧
    w.cell? ⟨b, o + k * 6 + 3, none⟩ = some (.int .i64 (K.getD k (0, 0)).1) ∧ w.cell? ⟨b, o + k * 6 + 4, none⟩ = some (.int .i64 (K.getD k (0, 0)).2) ∧ w.cell? ⟨b, o + k * 6 + 5, none⟩ = some (.int .i64 (payV (K.getD k (0, 0)).2 l))
theorem PersIn.below {w w' : World} {p : Option Addr} {y n l : Int} {K : List (Int × Int)} (h : PersIn w p y n l K) (hb : Below w.heap.size w w') : PersIn w' p y n l K := by
  rcases h with h | ⟨b, o, rfl, hc⟩
  · exact .inl h
  · refine .inr ⟨b, o, rfl, fun k hk => ?_⟩
    obtain ⟨a, c, d, e, f, g⟩ := hc k hk
    exact ⟨stay hb a, stay hb c, stay hb d, stay hb e, stay hb f, stay hb g⟩
theorem own_slice {w : World} {base : Nat} {E : TypeId} {s n : Nat} {v : Value} {xs : List Value} (h : w.ownsRow base E s v n xs) : ∃ p c, v = .slice p n c ∧ n ≤ c := by
  rcases h.2 with ⟨rfl, rfl⟩ | ⟨g, c, cur, rfl, _, _, h2, _⟩
  · exact ⟨none, 0, rfl, Nat.le_refl _⟩
  · exact ⟨_, _, rfl, h2⟩
theorem own_below {w w' : World} {base B : Nat} {E : TypeId} {s n : Nat} {v : Value} {xs : List Value} (h : w.ownsRow base E s v n xs) (hb : Below B w w') (hB : w.heap.size ≤ B) : w'.ownsRow base E s v n xs := by
  obtain ⟨h1, h2⟩ := h
  refine ⟨h1, ?_⟩
  rcases h2 with h2 | ⟨g, c, cur, rfl, hg, hh, h3⟩
  · exact .inl h2
  · have hlt : g < w.heap.size := by
      rcases Nat.lt_or_ge g w.heap.size with hlt | hge
      · exact hlt
      · rw [Array.getElem?_eq_none hge] at hh; cases hh
    exact .inr ⟨g, c, cur, rfl, hg, (hb.block g (by omega)).trans hh, h3⟩
theorem info_of {P : Program} {t : TypeId} {z : Option Value} {s b : Nat} (h : (P.info? t).map (fun i => (i.zero, i.size, i.bytes)) = some (z, s, b)) : ∃ i, P.info? t = some i ∧ i.zero = z ∧ i.size = s ∧ i.bytes = b := by
  obtain ⟨i, hi, he⟩ := Option.map_eq_some_iff.1 h
  injection he with h1 h2
  injection h2 with h2 h3
  exact ⟨i, hi, h1, h2, h3⟩
theorem infoPer : (Tryd.prog.info? 30).map (fun i => (i.zero, i.size, i.bytes)) = some (some (.agg #[.int .i64 0, .int .i64 0, .int .i64 0, .int .i64 0, .int .i64 0, .int .i64 0]), 6, 48) := by kernel_rfl

/-- What a region that gathers periods keeps: older cells apart from the row's, and what lies below. -/
def Jn (W0 : World) (v : Value) (base : Nat) (w w' : World) : Prop := (∀ b o, b < W0.heap.size → v.ownBlock ≠ some b → w'.cell? ⟨b, o, none⟩ = W0.cell? ⟨b, o, none⟩) ∧ Below base w w' ∧ W0.heap.size ≤ w'.heap.size ∧ base ≤ W0.heap.size
theorem Jn.start {W0 : World} {v : Value} {base : Nat} {w : World} (h : Below base w W0) (hB : base ≤ W0.heap.size) : Jn W0 v base w W0.drew := ⟨fun _ _ _ _ => rfl, h.drew, Nat.le_refl _, hB⟩
theorem Jn.drew {W0 : World} {v : Value} {base : Nat} {w w' : World} (h : Jn W0 v base w w') : Jn W0 v base w w'.drew := ⟨fun b o h1 h2 => h.1 b o h1 h2, h.2.1.drew, h.2.2.1, h.2.2.2⟩
theorem Jn.call {W0 : World} {v : Value} {base : Nat} {w w' w'' : World} (h : Jn W0 v base w w') (hb : Below w'.heap.size w' w'') : Jn W0 v base w w'' :=
  ⟨fun b o h1 h2 => (bcell hb b o (Nat.lt_of_lt_of_le h1 h.2.2.1)).trans (h.1 b o h1 h2), h.2.1.trans (hb.mono (Nat.le_trans h.2.2.2 h.2.2.1)), Nat.le_trans h.2.2.1 hb.size, h.2.2.2⟩
theorem Jn.alloc {W0 : World} {v : Value} {base : Nat} {w w' : World} (h : Jn W0 v base w w') (o : Obj) : Jn W0 v base w (w'.alloc o) := h.call ((Below.refl _ _).alloc (Nat.le_refl _) o)
theorem Jn.grown {W0 : World} {v : Value} {base : Nat} {w w' w'' : World} (h : Jn W0 v base w w') (hg : w'.grownBy w'' v.ownBlock) (hk : ∀ k, v.ownBlock = some k → base ≤ k) : Jn W0 v base w w'' := by
  have hb := h.2.1.grown hg (Nat.le_trans h.2.2.2 h.2.2.1) hk
  refine ⟨fun b o h1 h2 => ?_, hb, ?_, h.2.2.2⟩
  · rw [hg.cell_far ⟨b, o, none⟩ (Nat.lt_of_lt_of_le h1 h.2.2.1) (Ne.symm h2)]
    exact h.1 b o h1 h2
  · exact Nat.le_trans h.2.2.1 hg.size
theorem Jn.cell {W0 : World} {v u : Value} {base : Nat} {w w' : World} (h : Jn W0 v base w w') {b o : Nat} (hn : v.ownBlock ≠ some b) (x : W0.cell? ⟨b, o, none⟩ = some u) : w'.cell? ⟨b, o, none⟩ = some u :=
  (h.1 b o (World.block_lt_of_cell? _ _ x) hn).trans x

end Go.Proofs.YtfmabjfibjnkoaaDoor
