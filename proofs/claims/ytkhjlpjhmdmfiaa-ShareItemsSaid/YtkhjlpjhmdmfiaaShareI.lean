/-
  What is proved: the contract of the document's own wrong. Conditions: the weights lie in memory as the contract says.
-/
import Derived.Test.YtkhjlpjhmdmfiaaShareG
namespace Go.Proofs.Ytkhjlpjhmdmfiaa
open Go Go.RowKit Go.Proofs

set_option maxHeartbeats 1000000 in
theorem wrong_any (t : Int) (p : Option Addr) (n cp : Nat) (wt : Nat → Int) (w : World) (hn : n ≤ 9223372036854775807) (h : Wts w p n wt) : Calls Try.prog 23 #[.int .i64 t, .slice p n cp] w fun e w' => e = .returned (.int .i64 (splitE t n wt)) ∧ w' = w := by
  by_cases g1 : 1125899906842624 < t
  · have d1 : decide ((1125899906842624 : Int) < t) = true := decide_eq_true (by omega)
    rw [show splitE t n wt = 9 by simp [splitE, fit_not (t := t) (by omega)]]
    go_enter Try.func23, Try.ntmps23
    go_wp2
    go_ret
    exact ⟨rfl, rfl⟩
  have d1 : decide ((1125899906842624 : Int) < t) = false := decide_eq_false (by omega)
  by_cases g2 : t < -1125899906842624
  · have d2 : decide (t < -1125899906842624) = true := decide_eq_true (by omega)
    rw [show splitE t n wt = 9 by simp [splitE, fit_not (t := t) (by omega)]]
    go_enter Try.func23, Try.ntmps23
    go_wp2
    go_ret
    exact ⟨rfl, rfl⟩
  have d2 : decide (t < -1125899906842624) = false := decide_eq_false (by omega)
  rw [show splitE t n wt = weighE n wt by simp [splitE, fit_of (t := t) (by omega) (by omega)]]
  by_cases h0 : n = 0
  · subst h0
    rw [show weighE 0 wt = 10 by simp [weighE]]
    go_enter Try.func23, Try.ntmps23
    go_wp2
    go_ret
    exact ⟨rfl, rfl⟩
  have d0 : ((n : Int) == 0) = false := by simp; omega
  by_cases h64 : 64 < n
  · rw [show weighE n wt = 5 by simp [weighE, h0, h64]]
    have d3 : (64 : Int) < (n : Int) := by omega
    go_enter Try.func23, Try.ntmps23
    go_wp2
    go_ret
    exact ⟨rfl, rfl⟩
  rcases h with h | ⟨b, o, rfl, hc⟩
  · exact absurd h h0
  have d3 : ¬ (64 : Int) < (n : Int) := by omega
  have HC := Lib.hid hc
  obtain ⟨E, hE⟩ : ∃ E, E = weighE n wt := ⟨_, rfl⟩
  rw [← hE]
  have HE : Hid (E = if allIn wt n = true then (if sumN (natW wt) n = 0 then 22 else 0) else 2) := Lib.hid (by rw [hE]; simp [weighE, h0, h64])
  clear hc hE h0
  go_enter Try.func23, Try.ntmps23
  go_wp2
  go_loop [5, 6] (fun s i => ∃ k : Nat, ∃ acc : Nat, k ≤ n ∧ i = .int .i64 k ∧ s = .int .i64 acc ∧ acc ≤ k * 1125899906842624 ∧ Hid (acc = sumN (natW wt) k) ∧ Hid (allIn wt k = true)) (fun _ i => n - (RowKit.intOf i).toNat)
  case atStart => exact ⟨0, 0, Nat.zero_le _, rfl, rfl, by omega, Lib.hid rfl, Lib.hid rfl⟩
  case round =>
    obtain ⟨k, acc, hk, rfl, rfl, hacc, HA, HI⟩ := hrel
    by_cases hlt : k < n
    · have ck := HC.out k hlt
      have i1 : (k : Int) < (n : Int) := by omega
      by_cases b1 : wt k < 0
      · have db : decide (wt k < 0) = true := decide_eq_true b1
        have e1 := HE.out
        rw [allIn_not hlt (in_not (Or.inl b1))] at e1
        obtain rfl : E = 2 := by simpa using e1
        clear e1
        generalize wt k = x at ck db b1
        go_wp2
        go_ret
        exact ⟨rfl, rfl⟩
      have db : decide (wt k < 0) = false := decide_eq_false b1
      by_cases b2 : 1125899906842624 < wt k
      · have db2 : decide ((1125899906842624 : Int) < wt k) = true := decide_eq_true b2
        have e1 := HE.out
        rw [allIn_not hlt (in_not (Or.inr b2))] at e1
        obtain rfl : E = 2 := by simpa using e1
        clear e1
        generalize wt k = x at ck db b1 db2 b2
        go_wp2
        go_ret
        exact ⟨rfl, rfl⟩
      have db2 : decide ((1125899906842624 : Int) < wt k) = false := decide_eq_false b2
      have hi := in_of (n := wt k) (m := 1125899906842624) (by omega) (by omega)
      obtain ⟨x, hx⟩ : ∃ x : Nat, x = (wt k).toNat := ⟨_, rfl⟩
      have hx2 : wt k = (x : Int) := by omega
      obtain ⟨acc', hacc'⟩ : ∃ acc', acc' = acc + x := ⟨_, rfl⟩
      have HA2 : Hid (acc' = sumN (natW wt) (k + 1)) := Lib.hid (by rw [sumN, hacc', HA.out, hx]; rfl)
      have HI2 : Hid (allIn wt (k + 1) = true) := Lib.hid (by rw [allIn, HI.out, hi]; rfl)
      rw [hx2] at ck db db2 b1 b2
      have v2 : (acc : Int) + (x : Int) = (acc' : Int) := by omega
      have v3 : IntKind.i64.wrap (acc' : Int) = (acc' : Int) := wrap_i _ (by omega) (by omega)
      have v4 : acc' ≤ (k + 1) * 1125899906842624 := by omega
      clear hx hx2 hacc' hi
      go_wp2
      go_round
      case rel => exact ⟨k + 1, acc', by omega, by go_num, rfl, v4, HA2, HI2⟩
      case measure => simp [RowKit.intOf]; omega
    · obtain rfl : k = n := by omega
      have e1 := HE.out
      rw [HI.out, ← HA.out] at e1
      by_cases hz : acc = 0
      · obtain rfl : E = 22 := by simpa [hz] using e1
        have dz : ((acc : Int) == 0) = true := by simp [hz]
        clear e1 hz
        go_wp2
        go_ret
        exact ⟨rfl, rfl⟩
      · obtain rfl : E = 0 := by simpa [hz] using e1
        have dz : ((acc : Int) == 0) = false := by simp [hz]
        clear e1 hz
        go_wp2
        go_ret
        exact ⟨rfl, rfl⟩

end Go.Proofs.Ytkhjlpjhmdmfiaa
