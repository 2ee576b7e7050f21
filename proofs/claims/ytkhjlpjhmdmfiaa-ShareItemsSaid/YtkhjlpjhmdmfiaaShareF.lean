/-
  What is proved: the contract of the statements' own 'same' on alike amounts, and that 'awake' is true. Conditions: the amounts lie in memory as the contract says.
-/
import Derived.Test.YtkhjlpjhmdmfiaaShareE
namespace Go.Proofs.Ytkhjlpjhmdmfiaa
open Go Go.RowKit Go.Proofs

theorem Wts.below {w w' : World} {p : Option Addr} {n B : Nat} {x : Nat → Int} (h : Wts w p n x) (hB : w.heap.size ≤ B) (hb : Below B w w') : Wts w' p n x := by
  rcases h with h | ⟨b, o, rfl, hc⟩
  · exact .inl h
  · refine .inr ⟨b, o, rfl, fun j hj => ?_⟩
    have h1 := hc j hj
    have h2 := World.block_lt_of_cell? w _ h1
    exact (hb.cell (p := ⟨b, o + j, none⟩) (show b < B by have : b < w.heap.size := h2; omega)).trans h1
theorem Wts.of_row {w : World} {g n : Nat} {x : Nat → Int} (h : RowV w g n (fun j => .int .i64 (x j))) : Wts w (some ⟨g, 0, none⟩) n x := .inr ⟨g, 0, rfl, fun j hj => by rw [Nat.zero_add]; exact (h j hj).1⟩
theorem Wts.drewN {w : World} {p : Option Addr} {n : Nat} {x : Nat → Int} (h : Wts w p n x) (k : Nat) : Wts (w.drewN k) p n x := h
theorem Wts.congr {w : World} {p : Option Addr} {n : Nat} {x y : Nat → Int} (h : Wts w p n x) (e : ∀ j, j < n → x j = y j) : Wts w p n y := by
  rcases h with h | ⟨b, o, rfl, hc⟩
  · exact .inl h
  · exact .inr ⟨b, o, rfl, fun j hj => by rw [hc j hj, e j hj]⟩
set_option maxHeartbeats 1000000 in
theorem same_yes (p q : Option Addr) (n c d : Nat) (x : Nat → Int) (w : World) (hn : n ≤ 9223372036854775807) (h1 : Wts w p n x) (h2 : Wts w q n x) : Calls Try.prog 13 #[.slice p n c, .slice q n d] w fun e w' => e = .returned (.bool true) ∧ ∃ m, w' = w.drewN m := by
  have H1 := Lib.hid h1
  have H2 := Lib.hid h2
  clear h1 h2
  have d0 : ((n : Int) != (n : Int)) = false := by simp
  go_enter Try.func13, Try.ntmps13
  go_wp2
  go_loopw [5, 13] (fun _ kv wr => ∃ k m : Nat, k ≤ n ∧ kv = .int .i64 k ∧ wr = w.drewN m) (fun _ kv _ => n - (RowKit.intOf kv).toNat)
  case atStart => exact ⟨0, 0, by omega, rfl, rfl⟩
  case round =>
    obtain ⟨k, m, hk, rfl, rfl⟩ := hrel
    by_cases hlt : k < n
    · rcases H1.out with h | ⟨b, o, rfl, hc⟩
      · omega
      rcases H2.out with h | ⟨b', o', rfl, hc'⟩
      · omega
      have ck := hc k hlt
      have ck' := hc' k hlt
      generalize x k = v at ck ck'
      have dv : (v != v) = false := by simp
      have i1 : (k : Int) < (n : Int) := by omega
      clear hc hc' H1 H2
      go_wp2
      go_quiet (fail)
      go_wp2
      exact ⟨⟨k + 1, _, by omega, by go_num, rfl⟩, by simp [RowKit.intOf]; omega⟩
    · go_wp2
      go_ret
      exact ⟨rfl, m, rfl⟩

end Go.Proofs.Ytkhjlpjhmdmfiaa
