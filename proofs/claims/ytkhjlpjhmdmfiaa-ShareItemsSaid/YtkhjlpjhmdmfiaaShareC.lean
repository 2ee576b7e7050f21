/-
  What is proved: the contracts of share.weigh and share.split. Conditions: the weights lie in memory as the contract says.
-/
import Derived.Test.YtkhjlpjhmdmfiaaShareB
import Derived.Test.YtkhjlpjhmdmfiaaShareMath
import Derived.BigRegion
namespace Go.Proofs.Ytkhjlpjhmdmfiaa
open Go Go.RowKit Go.Proofs

def allIn (wt : Nat → Int) : Nat → Bool
  | 0 => true
  | n + 1 => allIn wt n && inB (wt n) 1125899906842624
theorem allIn_all {wt : Nat → Int} : ∀ {n : Nat}, allIn wt n = true → ∀ j, j < n → 0 ≤ wt j ∧ wt j ≤ 1125899906842624
  | 0, _, j, h => by omega
  | n + 1, h, j, hj => by
    simp [allIn, inB] at h
    by_cases e : j = n
    · rw [e]; exact h.2
    · exact allIn_all h.1 j (by omega)
theorem allIn_not {wt : Nat → Int} {j : Nat} : ∀ {n : Nat}, j < n → inB (wt j) 1125899906842624 = false → allIn wt n = false
  | 0, h, _ => by omega
  | n + 1, h, hj => by
    rw [allIn]
    by_cases e : j = n
    · rw [← e, hj, Bool.and_false]
    · rw [allIn_not (by omega) hj, Bool.false_and]
def natW (wt : Nat → Int) (j : Nat) : Nat := (wt j).toNat
/-- What weigh tells. -/
def weighE (n : Nat) (wt : Nat → Int) : Int := if n = 0 then 10 else if 64 < n then 5 else if allIn wt n = true then (if sumN (natW wt) n = 0 then 22 else 0) else 2
def weighV (n : Nat) (wt : Nat → Int) : Nat := if weighE n wt = 0 then sumN (natW wt) n else 0
/-- The weights lie in memory. -/
def Wts (w : World) (p : Option Addr) (n : Nat) (wt : Nat → Int) : Prop := n = 0 ∨ ∃ b o, p = some ⟨b, o, none⟩ ∧ ∀ j, j < n → w.cell? ⟨b, o + j, none⟩ = some (.int .i64 (wt j))

set_option maxHeartbeats 1000000 in
theorem weigh_any (p : Option Addr) (n cp : Nat) (wt : Nat → Int) (w : World) (hn : n ≤ 9223372036854775807) (h : Wts w p n wt) : Calls Try.prog 21 #[.slice p n cp] w fun e w' => e = .returned (.tuple #[.int .u64 (weighV n wt : Int), .int .i64 (weighE n wt)]) ∧ w' = w := by
  by_cases h0 : n = 0
  · subst h0
    rw [show weighV 0 wt = 0 by simp [weighV, weighE], show weighE 0 wt = 10 by simp [weighE]]
    go_enter Try.func21, Try.ntmps21
    go_wp2
    go_ret2
    exact ⟨rfl, rfl⟩
  · have d0 : ((n : Int) == 0) = false := by simp; omega
    by_cases h64 : 64 < n
    · rw [show weighV n wt = 0 by simp [weighV, weighE, h0, h64], show weighE n wt = 5 by simp [weighE, h0, h64]]
      have d1 : (64 : Int) < (n : Int) := by omega
      go_enter Try.func21, Try.ntmps21
      go_wp2
      go_ret2
      exact ⟨rfl, rfl⟩
    · rcases h with h | ⟨b, o, rfl, hc⟩
      · exact absurd h h0
      have d1 : ¬ (64 : Int) < (n : Int) := by omega
      have HC := Lib.hid hc
      obtain ⟨V, hV⟩ : ∃ V, V = weighV n wt := ⟨_, rfl⟩
      obtain ⟨E, hE⟩ : ∃ E, E = weighE n wt := ⟨_, rfl⟩
      rw [← hV, ← hE]
      have HV := Lib.hid hV
      have HE : Hid (E = if allIn wt n = true then (if sumN (natW wt) n = 0 then 22 else 0) else 2) := Lib.hid (by rw [hE]; simp [weighE, h0, h64])
      have HVE : Hid (V = if E = 0 then sumN (natW wt) n else 0) := Lib.hid (by rw [hV, hE]; rfl)
      clear hc hV hE HV h0
      go_enter Try.func21, Try.ntmps21
      go_wp2
      go_loop [4, 15] (fun s i => ∃ k : Nat, ∃ acc : Nat, k ≤ n ∧ i = .int .i64 k ∧ s = .int .u64 acc ∧ acc ≤ k * 1125899906842624 ∧ Hid (acc = sumN (natW wt) k) ∧ Hid (allIn wt k = true)) (fun _ i => n - (RowKit.intOf i).toNat)
      case atStart => exact ⟨0, 0, Nat.zero_le _, rfl, rfl, by omega, Lib.hid rfl, Lib.hid rfl⟩
      case round =>
        obtain ⟨k, acc, hk, rfl, rfl, hacc, HA, HI⟩ := hrel
        by_cases hlt : k < n
        · have ck := HC.out k hlt
          cases hi : inB (wt k) 1125899906842624
          case false =>
            have e1 := HE.out
            rw [allIn_not hlt hi] at e1
            have e2 := HVE.out
            rw [e1] at e2
            obtain rfl : E = 2 := by simpa using e1
            obtain rfl : V = 0 := by simpa using e2
            clear e1 e2
            generalize wt k = x at ck hi
            go_wp2_with fail
            refine (within_any _ _ _).mono ?_
            rintro e w' ⟨rfl, rfl⟩
            go_wp2
            go_ret2
            exact ⟨rfl, rfl⟩
          case true =>
            have hi2 : 0 ≤ wt k ∧ wt k ≤ 1125899906842624 := by simpa [inB] using hi
            obtain ⟨x, hx⟩ : ∃ x : Nat, x = (wt k).toNat := ⟨_, rfl⟩
            have hx2 : wt k = (x : Int) := by omega
            obtain ⟨acc', hacc'⟩ : ∃ acc', acc' = acc + x := ⟨_, rfl⟩
            have HA2 : Hid (acc' = sumN (natW wt) (k + 1)) := Lib.hid (by rw [sumN, hacc', HA.out, hx]; rfl)
            have HI2 : Hid (allIn wt (k + 1) = true) := Lib.hid (by rw [allIn, HI.out, hi]; rfl)
            rw [hx2] at ck hi hi2
            have v1 : IntKind.u64.wrap (x : Int) = (x : Int) := wrap_in _ (by omega)
            have v2 : (acc : Int) + (x : Int) = (acc' : Int) := by omega
            have v3 : IntKind.u64.wrap (acc' : Int) = (acc' : Int) := wrap_in _ (by omega)
            have v4 : acc' ≤ (k + 1) * 1125899906842624 := by omega
            clear hx hx2 hacc' hi2
            go_wp2_with fail
            refine (within_any _ _ _).mono ?_
            rintro e w' ⟨rfl, rfl⟩
            go_wp2
            go_round
            case rel => exact ⟨k + 1, acc', by omega, by go_num, rfl, v4, HA2, HI2⟩
            case measure => simp [RowKit.intOf]; omega
        · obtain rfl : k = n := by omega
          have e1 := HE.out
          have e2 := HVE.out
          rw [HI.out, ← HA.out] at e1
          rw [← HA.out] at e2
          by_cases hz : acc = 0
          · obtain rfl : E = 22 := by simpa [hz] using e1
            obtain rfl : V = 0 := by simpa using e2
            have dz : ((acc : Int) == 0) = true := by simp [hz]
            clear e1 e2 hz
            go_wp2
            go_ret2
            exact ⟨rfl, rfl⟩
          · obtain rfl : E = 0 := by simpa [hz] using e1
            obtain rfl : V = acc := by simpa using e2
            have dz : ((V : Int) == 0) = false := by simp [hz]
            clear e1 e2 hz
            go_wp2
            go_ret2
            exact ⟨rfl, rfl⟩

end Go.Proofs.Ytkhjlpjhmdmfiaa
