/-
  What is proved: the contract of the document's own Split: as share.Split's. Conditions: the weights lie in memory as the contract says.
-/
import Derived.Test.YtkhjlpjhmdmfiaaShareI
import Derived.Test.YtkhjlpjhmdmfiaaShareSel
import Derived.Laws.AppendOwn
namespace Go.Proofs.Ytkhjlpjhmdmfiaa
open Go Go.RowKit Go.Proofs

theorem infoI64 : (Try.prog.info? 2).map (fun i => (i.zero, i.size, i.bytes)) = some (some (.int .i64 0), 1, 8) := by kernel_rfl
theorem app_own {T E : TypeId} (hT : Try.prog.underlying T = some (.slice E)) (hI : (Try.prog.info? E).map (fun i => (i.zero, i.size, i.bytes)) = some (some (.int .i64 0), 1, 8)) (base : Nat) (ty : TypeId) (w : World) (v : Value) (n : Nat) (xs : List Value) (hown : w.ownsRow base E 1 v n xs) (x : Int) (hn : n ≤ 1000) (hbase : base ≤ w.heap.size) :
    ∃ v' w', (Builtin.append_ #[T, T] ty #[v, .slice (some ⟨w.heap.size, 0, none⟩) 1 1]).run Try.prog (w.alloc (.cells #[.int .i64 x] E)) = .ok v' w' ∧ w'.ownsRow base E 1 v' (n + 1) (xs ++ [.int .i64 x]) ∧ (w.alloc (.cells #[.int .i64 x] E)).grownBy w' v.ownBlock := by
  obtain ⟨i, hi, hz0, hz1, hz2⟩ := info_of hI
  obtain ⟨v', w', h1, h2, h3, _⟩ := run_append_own (P := Try.prog) (w.alloc (.cells #[.int .i64 x] E)) base T ty E i (.int .i64 0) 1 8 hT hi hz0 hz1 hz2 rfl (by decide) v n xs (hown.alloc _) ⟨w.heap.size, 0, none⟩ 1 1 [.int .i64 x] rfl
    (fun j u hu => by
      match j, hu with
      | 0, hu => simp at hu; rw [← hu]; exact World.cell?_alloc_new w _ _ _)
    (fun u hu => by simp at hu; rw [hu]; rfl) (by unfold maxLen; omega) (by omega) (by simp; omega)
  exact ⟨v', w', h1, h2, h3⟩
theorem own_ne {w : World} {base : Nat} {e1 e2 : TypeId} {v1 v2 : Value} {n1 n2 : Nat} {x1 x2 : List Value} (h1 : w.ownsRow base e1 1 v1 n1 x1) (h2 : w.ownsRow base e2 1 v2 n2 x2) (hne : e1 ≠ e2) : v2.ownBlock = none ∨ v2.ownBlock ≠ v1.ownBlock := by
  rcases h2.2 with ⟨rfl, _⟩ | ⟨g2, c2, cur2, rfl, _, hh2, _⟩
  · exact .inl rfl
  · right
    rcases h1.2 with ⟨rfl, _⟩ | ⟨g1, c1, cur1, rfl, _, hh1, _⟩
    · simp [Value.ownBlock]
    · intro e
      simp only [Value.ownBlock, Option.some.injEq] at e
      rw [e, hh1] at hh2
      simp at hh2
      exact hne hh2.2
def rowL (g : Nat → Int) (k : Nat) : List Value := (List.range k).map (fun j => .int .i64 (g j))
theorem rowL_succ (g : Nat → Int) (k : Nat) : rowL g (k + 1) = rowL g k ++ [.int .i64 (g k)] := by simp [rowL, List.range_succ]
theorem rowL_at (g : Nat → Int) (k j : Nat) (h : j < k) : (rowL g k)[j]? = some (.int .i64 (g j)) := by simp [rowL, h]

theorem refSplit_err (t : Int) (p : Option Addr) (n cp : Nat) (wt : Nat → Int) (w : World) (hn : n ≤ 9223372036854775807) (h : Wts w p n wt) (he : splitE t n wt ≠ 0) : Calls Try.prog 12 #[.int .i64 t, .slice p n cp] w fun e w' => e = .returned (.tuple #[.slice none 0 0, .int .i64 (splitE t n wt)]) ∧ w' = w := by
  have HW := Lib.hid (wrong_any t p n cp wt w hn h)
  generalize splitE t n wt = E at HW he ⊢
  have dE : (E != 0) = true := by simp [he]
  clear h
  go_enter Try.func12, Try.ntmps12
  go_wp2_with fail
  refine (HW.out).mono ?_
  rintro e w1 ⟨rfl, hw⟩
  rw [hw]
  go_wp2
  go_ret2
  exact ⟨rfl, rfl⟩

end Go.Proofs.Ytkhjlpjhmdmfiaa
