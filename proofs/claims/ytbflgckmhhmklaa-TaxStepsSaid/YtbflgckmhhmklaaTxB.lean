/-
  What is proved: the contract of the document's Check of a table. Conditions: slices are shorter than 2^62.
-/
import Derived.Test.YtbflgckmhhmklaaTxA
namespace Go.Proofs.Ytbflgckmhhmklaa
open Go Go.RowKit Go.Proofs
set_option linter.unusedVariables false

set_option maxHeartbeats 4000000 in
set_option maxRecDepth 100000 in
theorem rCheck_any (p : Option Addr) (n cp : Nat) (f : Nat → Bd) (w : World) (hn : n ≤ 4611686018427387904) (hf : BdIn w p n f) :
    Calls Try.prog 22 #[.slice p n cp] w fun e w' => e = .returned (.int .i64 (chkT f n)) ∧ Below w.heap.size w w' := by
  by_cases h64 : n ≤ 64
  case neg =>
    have i1 : ¬ (n : Int) ≤ 64 := by omega
    rw [show chkT f n = 5 by unfold chkT; rw [if_pos (by omega)]]
    go_enter Try.func22, Try.ntmps22
    go_wp2
    go_ret
    exact ⟨rfl, Below.refl _ _⟩
  case pos =>
    have i1 : (n : Int) ≤ 64 := by omega
    have HE : ∀ k, k < n → chkR f k = 0 → chkAt f k ≠ 0 → chkT f n = chkAt f k := fun k hk h0 he => chkT_at h64 hk h0 he
    have HN : chkR f n = 0 → chkT f n = 0 := fun h => by unfold chkT; rw [if_neg (by omega), h]
    have HX := Lib.hid hf
    clear hf
    generalize chkT f n = E at HE HN ⊢
    replace HE := Lib.hid HE
    replace HN := Lib.hid HN
    go_enter Try.func22, Try.ntmps22
    go_wp2
    go_loopw [3] (fun iv wr => ∃ k : Nat, k ≤ n ∧ iv = .int .i64 k ∧ Hid (chkR f k = 0) ∧ Hid (Below w.heap.size w wr)) (fun iv _ => n - (RowKit.intOf iv).toNat)
    case atStart => exact ⟨0, Nat.zero_le _, rfl, Lib.hid rfl, Lib.hid (Below.refl _ _)⟩
    case round =>
      obtain ⟨k, hk, rfl, H0, HB⟩ := hrel
      by_cases hlt : k < n
      · rcases HX.out with h | ⟨b, o, rfl, hl, hc⟩
        · omega
        have kc : ∀ j, j < n → wr.cell? ⟨b, o + j * 2, none⟩ = some (.int .i64 (f j).1) ∧ wr.cell? ⟨b, o + j * 2 + 1, none⟩ = some (.int .i64 (f j).2) := fun j hj => ⟨(HB.out.cell (p := ⟨b, o + j * 2, none⟩) hl).trans (hc j hj).1, (HB.out.cell (p := ⟨b, o + j * 2 + 1, none⟩) hl).trans (hc j hj).2⟩
        have HKE := Lib.hid (HE.out k hlt H0.out)
        have HKN := Lib.hid (show chkAt f k = 0 → chkR f (k + 1) = 0 from fun h => by unfold chkR; rw [if_pos H0.out, h])
        have j0 : (0 : Int) ≤ (k : Int) := by omega
        have j1 : (k : Int) < (n : Int) := by omega
        obtain ⟨ck0, ck1⟩ := kc k hlt
        by_cases hk0 : k = 0
        case pos =>
          have hw := chk_ways0 f k hk0
          have d0 : ((k : Int) == 0) = true := by simp; omega
          have dz : decide (0 < k) = false := decide_eq_false (by omega)
          clear hc kc hk0
          generalize (f k).1 = a at *
          generalize (f k).2 = r at *
          rcases hw with ⟨e, d1⟩ | ⟨e, d1, d2⟩ | ⟨e, d1, d2, d3⟩ | ⟨e, d1, d2, d3, d4⟩ | ⟨e, d1, d2, d3, d4⟩
          all_goals
            rw [e] at HKE HKN
            clear e
            go_upto_region 6 with fail
            go_quiet (fail)
            go_wp2
            first
            | (go_ret
               have hE := HKE.out (by decide)
               subst hE
               exact ⟨rfl, ⟨HB.out.os, HB.out.tape, HB.out.output, HB.out.size, HB.out.block⟩⟩)
            | exact ⟨⟨k + 1, by omega, by go_num, Lib.hid (HKN.out rfl), Lib.hid ⟨HB.out.os, HB.out.tape, HB.out.output, HB.out.size, HB.out.block⟩⟩, by simp [RowKit.intOf]; omega⟩
        case neg =>
          have hw := chk_ways f k (by omega)
          have d0 : ((k : Int) == 0) = false := by simp; omega
          have dz : decide (0 < k) = true := decide_eq_true (by omega)
          have w1 : IntKind.i64.wrap ((k : Int) - 1) = (k : Int) - 1 := IntWalk.i64_in _ (by omega)
          have j2 : 0 ≤ (k : Int) - 1 := by omega
          have j3 : (k : Int) - 1 < (n : Int) := by omega
          have j4 : ((k : Int) - 1).toNat = k - 1 := by omega
          have cp0 := (kc (k - 1) (by omega)).1
          clear hc kc hk0
          generalize (f (k - 1)).1 = pv at *
          generalize (f k).1 = a at *
          generalize (f k).2 = r at *
          rcases hw with ⟨e, d1⟩ | ⟨e, d1, d2⟩ | ⟨e, d1, d2, d3⟩ | ⟨e, d1, d2, d3, d4⟩ | ⟨e, d1, d2, d3, d4⟩
          all_goals
            rw [e] at HKE HKN
            clear e
            go_upto_region 6 with fail
            go_quiet (fail)
            go_wp2
            first
            | (go_ret
               have hE := HKE.out (by decide)
               subst hE
               exact ⟨rfl, ⟨HB.out.os, HB.out.tape, HB.out.output, HB.out.size, HB.out.block⟩⟩)
            | exact ⟨⟨k + 1, by omega, by go_num, Lib.hid (HKN.out rfl), Lib.hid ⟨HB.out.os, HB.out.tape, HB.out.output, HB.out.size, HB.out.block⟩⟩, by simp [RowKit.intOf]; omega⟩
      · obtain rfl : k = n := by omega
        have hE := HN.out H0.out
        subst hE
        go_wp2
        go_ret
        exact ⟨rfl, HB.out⟩

end Go.Proofs.Ytbflgckmhhmklaa
