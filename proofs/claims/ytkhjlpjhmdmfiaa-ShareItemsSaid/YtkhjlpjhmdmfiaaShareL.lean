/-
  What is proved: the contract of the document's own Split where nothing is wrong, for any amount. Conditions: the weights lie in memory as the contract says; an arrangement of the places by their rests is given.
-/
import Derived.Test.YtkhjlpjhmdmfiaaShareK
namespace Go.Proofs.Ytkhjlpjhmdmfiaa
open Go Go.RowKit Go.Proofs

theorem natW_cast {wt : Nat → Int} {n : Nat} (h : allIn wt n = true) : ∀ j, j < n → wt j = (natW wt j : Int) := fun j hj => by
  have := allIn_all h j hj
  unfold natW
  omega
theorem refSplit_ok (t : Int) (p : Option Addr) (n cp : Nat) (wt : Nat → Int) (f : Nat → Nat) (w : World) (h : Wts w p n wt) (he : splitE t n wt = 0) (hg : Good (rsN t.natAbs (sumN (natW wt) n) (natW wt)) f 0 n) : Calls Try.prog 12 #[.int .i64 t, .slice p n cp] w (RefOk t n (natW wt) f w) := by
  have hf : fitB t = true := by
    cases hf : fitB t
    · simp [splitE, hf] at he
    · rfl
  have ht : -1125899906842624 ≤ t ∧ t ≤ 1125899906842624 := by simpa [fitB] using hf
  have hw0 : weighE n wt = 0 := by simpa [splitE, hf] using he
  obtain ⟨n0, n64, hall, hpos, hV⟩ := weigh_zero hw0
  have hcast := natW_cast hall
  rcases h with h | ⟨b, o, rfl, hc⟩
  · omega
  have hin := allIn_all hall
  have hc2 : ∀ j, j < n → w.cell? ⟨b, o + j, none⟩ = some (.int .i64 (natW wt j : Int)) := fun j hj => by rw [hc j hj, hcast j hj]
  have hbl : b < w.heap.size := World.block_lt_of_cell? w _ (hc 0 n0)
  have hSb : sumN (natW wt) n ≤ 72057594037927936 := by
    have h1 := sumN_bound (r := natW wt) (b := 1125899906842624) n (fun j hj => by unfold natW; have := hin j hj; omega)
    have h2 := Nat.mul_le_mul_right 1125899906842624 n64
    omega
  have HW : ∀ W, Wts W (some ⟨b, o, none⟩) n (fun j => (natW wt j : Int)) → Calls Try.prog 23 #[.int .i64 t, .slice (some ⟨b, o, none⟩) n cp] W fun e w' => e = .returned (.int .i64 0) ∧ w' = W := fun W hW => by
    have := wrong_any t (some ⟨b, o, none⟩) n cp wt W (by omega) (hW.congr (fun j hj => (hcast j hj).symm))
    rwa [he] at this
  by_cases hneg : t < 0
  · obtain ⟨a, ha⟩ : ∃ a : Nat, a = t.natAbs := ⟨_, rfl⟩
    obtain rfl : t = -(a : Int) := by omega
    rw [← ha] at hg
    exact refSplit_neg a b o n cp _ (natW wt) f w (by omega) (by omega) n64 n0 hbl hc2 rfl hpos hSb hg (Lib.hid HW)
  · obtain ⟨a, ha⟩ : ∃ a : Nat, a = t.natAbs := ⟨_, rfl⟩
    obtain rfl : t = (a : Int) := by omega
    rw [← ha] at hg
    exact refSplit_pos a b o n cp _ (natW wt) f w (by omega) n64 n0 hbl hc2 rfl hpos hSb hg (Lib.hid HW)

end Go.Proofs.Ytkhjlpjhmdmfiaa
