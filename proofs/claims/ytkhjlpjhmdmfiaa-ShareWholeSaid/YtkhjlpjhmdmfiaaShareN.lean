/-
  What is proved: what append leaves of a row of the call's own, for a slice of integers that came in (nil too), and for one more number. Conditions: the lengths' limits.
-/
import Derived.Test.YtkhjlpjhmdmfiaaShareQ
import Derived.Laws.AppendOwnNone
namespace Go.Proofs.Ytkhjlpjhmdmfiaa
open Go Go.RowKit Go.Proofs

def rowK (k : IntKind) (g : Nat → Int) (n : Nat) : List Value := (List.range n).map (fun j => .int k (g j))
theorem rowK_len (k : IntKind) (g : Nat → Int) (n : Nat) : (rowK k g n).length = n := by simp [rowK]
theorem rowK_at (k : IntKind) (g : Nat → Int) (n j : Nat) (h : j < n) : (rowK k g n)[j]? = some (.int k (g j)) := by simp [rowK, h]
theorem app_one {T E : TypeId} {k : IntKind} {b : Nat} (hT : Try.prog.underlying T = some (.slice E)) (hI : (Try.prog.info? E).map (fun i => (i.zero, i.size, i.bytes)) = some (some (.int k 0), 1, b)) (hb : b ≤ 8) (base : Nat) (ty : TypeId) (w : World) (v : Value) (n : Nat) (xs : List Value) (hown : w.ownsRow base E 1 v n xs) (x : Int) (hn : n ≤ 1000) (hbase : base ≤ w.heap.size) :
    ∃ v' w', (Builtin.append_ #[T, T] ty #[v, .slice (some ⟨w.heap.size, 0, none⟩) 1 1]).run Try.prog (w.alloc (.cells #[.int k x] E)) = .ok v' w' ∧ w'.ownsRow base E 1 v' (n + 1) (xs ++ [.int k x]) ∧ (w.alloc (.cells #[.int k x] E)).grownBy w' v.ownBlock := by
  obtain ⟨i, hi, hz0, hz1, hz2⟩ := info_of hI
  have hm : (n + 1) * b ≤ 1001 * 8 := Nat.mul_le_mul (by omega) hb
  obtain ⟨v', w', h1, h2, h3, _⟩ := run_append_own (P := Try.prog) (w.alloc (.cells #[.int k x] E)) base T ty E i (.int k 0) 1 b hT hi hz0 hz1 hz2 rfl (by decide) v n xs (hown.alloc _) ⟨w.heap.size, 0, none⟩ 1 1 [.int k x] rfl
    (fun j u hu => by
      match j, hu with
      | 0, hu => simp at hu; rw [← hu]; exact World.cell?_alloc_new w _ _ _)
    (fun u hu => by simp at hu; rw [hu]; rfl) (by unfold maxLen; omega) (by omega) (by simp; omega)
  exact ⟨v', w', h1, h2, h3⟩
theorem app_row {T E : TypeId} {k : IntKind} {b : Nat} (hT : Try.prog.underlying T = some (.slice E)) (hI : (Try.prog.info? E).map (fun i => (i.zero, i.size, i.bytes)) = some (some (.int k 0), 1, b)) (hb : b ≤ 8) (base : Nat) (ty : TypeId) (w0 w : World) (v : Value) (n : Nat) (xs : List Value) (hown : w.ownsRow base E 1 v n xs)
    (p : Option Addr) (m c : Nat) (zs : List Int) (hrow : IsRow k w0 p m c zs) (hcell : ∀ a u, w0.cell? a = some u → w.cell? a = some u) (hn : n + m ≤ 1000) (hbase : base ≤ w.heap.size) :
    ∃ v' w', (Builtin.append_ #[T, T] ty #[v, .slice p m c]).run Try.prog w = .ok v' w' ∧ w'.ownsRow base E 1 v' (n + m) (xs ++ rowK k (fun j => zs.getD j 0) m) ∧ w.grownBy w' v.ownBlock := by
  obtain ⟨i, hi, hz0, hz1, hz2⟩ := info_of hI
  rcases hrow with ⟨rfl, rfl, rfl, rfl⟩ | ⟨a, rfl, hl, hm, hz, hc, -⟩
  · exact ⟨v, w, run_append_owned_none (P := Try.prog) (w := w) base T ty E i 1 hT hi v n xs hown, by simpa [rowK] using hown, World.grownBy.refl w _⟩
  · have hm : (n + m) * b ≤ 1000 * 8 := Nat.mul_le_mul hn hb
    obtain ⟨v', w', h1, h2, h3, _⟩ := run_append_own (P := Try.prog) w base T ty E i (.int k 0) 1 b hT hi hz0 hz1 hz2 rfl (by decide) v n xs hown a m c (rowK k (fun j => zs.getD j 0) m) (by rw [rowK_len]; omega)
      (fun j u hu => by
        by_cases hj : j < m
        · rw [rowK_at _ _ _ _ hj] at hu
          rw [← Option.some.inj hu]
          exact hcell _ _ (hc j (by omega))
        · rw [List.getElem?_eq_none (by rw [rowK_len]; omega)] at hu; cases hu)
      (fun u hu => by simp only [rowK, List.mem_map] at hu; obtain ⟨j, -, rfl⟩ := hu; rfl) (by unfold maxLen; omega) (by omega) hbase
    exact ⟨v', w', h1, h2, h3⟩

end Go.Proofs.Ytkhjlpjhmdmfiaa
