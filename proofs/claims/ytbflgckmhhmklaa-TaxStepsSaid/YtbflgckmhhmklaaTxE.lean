/-
  What is proved: the contracts of the document's Takes and Scaled, and of band.Scaled. Conditions: the table is right, but for band.Scaled; the numbers are not far from 0.
-/
import Derived.Test.YtbflgckmhhmklaaTxD
namespace Go.Proofs.Ytbflgckmhhmklaa
open Go Go.RowKit Go.Proofs
set_option linter.unusedVariables false

theorem mul_bd {q r m : Int} (q0 : 0 ≤ q) (r0 : 0 ≤ r) (r1 : r ≤ 1000000) (hq : q ≤ m) : 0 ≤ q * r ∧ q * r ≤ m * 1000000 :=
  ⟨Int.mul_nonneg q0 r0, Int.le_trans (Int.mul_le_mul_of_nonneg_left r1 q0) (Int.mul_le_mul_of_nonneg_right hq (by omega))⟩
/-- A part's product, whole and rest apart. -/
theorem part_split (h r : Int) (h0 : 0 ≤ h) : 1000000 * (h / 1000000 * r + h % 1000000 * r / 1000000) + h % 1000000 * r % 1000000 = r * h := by
  have e1 := Int.mul_ediv_add_emod h 1000000
  have e2 := Int.mul_ediv_add_emod (h % 1000000 * r) 1000000
  have e3 : r * h = 1000000 * (h / 1000000 * r) + h % 1000000 * r := by
    calc r * h = r * (1000000 * (h / 1000000) + h % 1000000) := by rw [e1]
      _ = 1000000 * (h / 1000000 * r) + h % 1000000 * r := by rw [Int.mul_add, ← Int.mul_assoc, Int.mul_comm r 1000000, Int.mul_assoc, Int.mul_comm r (h / 1000000), Int.mul_comm r (h % 1000000)]
  omega

set_option maxHeartbeats 8000000 in
set_option maxRecDepth 100000 in
theorem Takes_any (p : Option Addr) (n cp : Nat) (f : Nat → Bd) (x idx : Int) (hn : n ≤ 64) (hr : Rises f n) (i0 : 1 ≤ idx) (i1 : idx ≤ 400) (x0 : -2305843009213693952 ≤ x) (x1 : x ≤ 2305843009213693952) (w : World) (hf : BdIn w p n f) :
    Calls Try.prog 27 #[.int .i64 x, .int .i64 idx, .slice p n cp] w fun e w' => e = .returned (.tuple #[.int .i64 (takesV f n x idx / 1000000), .int .i64 (takesV f n x idx % 1000000)]) ∧ w = w' := by
  have HT : ∀ k, k ≤ n → (∀ j, j < k → (f j).1 * idx < x) → (k < n → x ≤ (f k).1 * idx) → takesV f n x idx = sumV f n x idx k := fun k hk hj hs => by unfold takesV; rw [cnt_is hk hj hs]
  have HX := Lib.hid hf
  clear hf
  generalize takesV f n x idx = Tk at HT ⊢
  replace HT := Lib.hid HT
  go_enter Try.func27, Try.ntmps27
  go_wp2
  go_loop [8, 9, 10] (fun av bv iv => ∃ k : Nat, ∃ u v : Int, k ≤ n ∧ iv = .int .i64 k ∧ av = .int .i64 u ∧ bv = .int .i64 v ∧ 0 ≤ u ∧ 0 ≤ v ∧ v ≤ (k : Int) * 1000000 ∧ Hid (1000000 * u + v = sumV f n x idx k) ∧ Hid (∀ j, j < k → (f j).1 * idx < x)) (fun _ _ iv => n - (RowKit.intOf iv).toNat)
  case atStart => exact ⟨0, 0, 0, Nat.zero_le _, rfl, rfl, rfl, by omega, by omega, by omega, Lib.hid rfl, Lib.hid (fun j h => by omega)⟩
  case round =>
    obtain ⟨k, u, v, hk, rfl, rfl, rfl, u0, v0, v1, HU, HP⟩ := hrel
    have hsb := sum_all hr (x := x) i0 k hk HP.out
    rw [← HU.out] at hsb
    obtain ⟨hs0, hs1⟩ := hsb
    have hv2 : v ≤ 64000000 := by omega
    by_cases hlt : k < n
    · rcases HX.out with h | ⟨b, o, rfl, hl, hc⟩
      · omega
      obtain ⟨ck0, ck1⟩ := hc k hlt
      have hcn : k + 1 < n → w.cell? ⟨b, o + (k + 1) * 2, none⟩ = some (.int .i64 (f (k + 1)).1) := fun h => (hc (k + 1) h).1
      have hgm := idx_bd (hr.ge k hlt) (hr.2.1 k hlt).1 i0 i1
      have hn1 : k + 1 < n → 0 ≤ (f (k + 1)).1 * idx ∧ (f (k + 1)).1 * idx ≤ 450359962737049600 := fun h => idx_bd (hr.ge (k + 1) h) (hr.2.1 (k + 1) h).1 i0 i1
      have hrise : k + 1 < n → (f k).1 * idx < (f (k + 1)).1 * idx := fun h => mul_lt (hr.2.2 k h) i0
      obtain ⟨-, r0, r1⟩ := hr.2.1 k hlt
      have hsn : sumV f n x idx (k + 1) = sumV f n x idx k + (f k).2 * (toV f n x idx k - (f k).1 * idx) := rfl
      have hto : toV f n x idx k = if k + 1 < n then min x ((f (k + 1)).1 * idx) else x := rfl
      have HTk := Lib.hid (fun h => HT.out k hk HP.out (fun _ => h))
      have HPn := Lib.hid (show (f k).1 * idx < x → ∀ j, j < k + 1 → (f j).1 * idx < x from fun h j hj => by
        rcases Nat.lt_succ_iff_lt_or_eq.1 hj with h3 | rfl
        · exact HP.out j h3
        · exact h)
      have HUk := HU.out
      rw [← HUk] at hsn HTk
      have j0 : (0 : Int) ≤ (k : Int) := by omega
      have j1 : (k : Int) < (n : Int) := by omega
      clear hc HU HUk HP
      generalize (f k).1 = a at *
      generalize (f k).2 = r at *
      obtain ⟨am, ham⟩ : ∃ am, am = a * idx := ⟨_, rfl⟩
      rw [← ham] at hgm hrise hsn HTk HPn
      by_cases hx : x ≤ am
      · have hT9 := HTk.out hx
        replace hT9 := Lib.hid hT9
        have hx' : x ≤ a * idx := by omega
        have hg9 : 0 ≤ a * idx ∧ a * idx ≤ 450359962737049600 := by omega
        clear ham hx HTk HPn hsn hto hrise hcn hn1 hgm
        go_wp2
        refine bodyPost_ret (v := .tuple #[.int .i64 (u + v / 1000000), .int .i64 (v % 1000000)]) (by simp [results, Try.results27, go_sem]) rfl ⟨?_, rfl⟩
        rw [hT9.out, show (1000000 * u + v) / 1000000 = u + v / 1000000 by omega, show (1000000 * u + v) % 1000000 = v % 1000000 by omega]
      · have HPk := Lib.hid (HPn.out (by omega))
        have hx' : ¬ x ≤ a * idx := by omega
        have hg9 : 0 ≤ a * idx ∧ a * idx ≤ 450359962737049600 := by omega
        by_cases hk1 : k + 1 < n
        · have dk : (k : Int) + 1 < (n : Int) := by omega
          rw [if_pos hk1] at hto
          have hc2 := hcn hk1
          have hn2 := hn1 hk1
          have hr2 := hrise hk1
          have wk : ((k : Int) + 1).toNat = k + 1 := by omega
          have k0 : 0 ≤ (k : Int) + 1 := by omega
          clear HTk HPn hcn hn1 hrise
          generalize (f (k + 1)).1 = c at *
          go_upto_region 10 with fail
          obtain ⟨h, hh⟩ : ∃ h, h = min (x - a * idx) (c * idx - a * idx) := ⟨_, rfl⟩
          rw [← hh]
          have hb0 : 0 ≤ h := by omega
          have hb1 : h ≤ 2305843009213693952 := by omega
          replace hh : h = toV f n x idx k - am := by rw [hto]; omega
          clear hto ham hn2 hr2 hc2 dk hx hx' hg9 hgm wk k0
          have hq := mul_bd (q := h / 1000000) (r := r) (m := 2305843009214) (by omega) r0 r1 (by omega)
          have hw := mul_bd (q := h % 1000000) (r := r) (m := 999999) (by omega) r0 r1 (by omega)
          obtain ⟨hq0, hq1⟩ := hq
          obtain ⟨hw0, hw1⟩ := hw
          have hps := part_split h r (by omega)
          have hu1 : u ≤ 2305843009213693952 := by omega
          have HS2 : Hid (1000000 * (u + h / 1000000 * r + h % 1000000 * r / 1000000) + (v + h % 1000000 * r % 1000000) = sumV f n x idx (k + 1)) := Lib.hid (by rw [hsn, ← hh]; omega)
          have hv9 : v + h % 1000000 * r % 1000000 ≤ ((k + 1 : Nat) : Int) * 1000000 := by
            have : ((k + 1 : Nat) : Int) = (k : Int) + 1 := by omega
            rw [this, Int.add_mul]; omega
          have hm0 : 0 ≤ h / 1000000 := by omega
          have hm1 : 0 ≤ h % 1000000 := by omega
          have hm2 : 0 ≤ h % 1000000 * r / 1000000 := by omega
          have hm3 : h % 1000000 * r / 1000000 ≤ 1000000 := by omega
          have hm4 : 0 ≤ h % 1000000 * r % 1000000 := by omega
          have hm5 : h % 1000000 * r % 1000000 < 1000000 := by omega
          have HV9 := Lib.hid hv9
          clear hps hsn hh hv9 hs0 hs1 v1
          go_wp2
          exact ⟨⟨k + 1, _, _, by omega, by go_num, rfl, rfl, by omega, by omega, HV9.out, HS2, HPk⟩, by simp [RowKit.intOf]; omega⟩
        · have dk : ¬ (k : Int) + 1 < (n : Int) := by omega
          rw [if_neg hk1] at hto
          clear HTk HPn hcn hn1 hrise
          go_upto_region 10 with fail
          obtain ⟨h, hh⟩ : ∃ h, h = x - a * idx := ⟨_, rfl⟩
          rw [← hh]
          have hb0 : 0 ≤ h := by omega
          have hb1 : h ≤ 2305843009213693952 := by omega
          replace hh : h = toV f n x idx k - am := by rw [hto]; omega
          clear hto ham dk hx hx' hg9 hgm
          have hq := mul_bd (q := h / 1000000) (r := r) (m := 2305843009214) (by omega) r0 r1 (by omega)
          have hw := mul_bd (q := h % 1000000) (r := r) (m := 999999) (by omega) r0 r1 (by omega)
          obtain ⟨hq0, hq1⟩ := hq
          obtain ⟨hw0, hw1⟩ := hw
          have hps := part_split h r (by omega)
          have hu1 : u ≤ 2305843009213693952 := by omega
          have HS2 : Hid (1000000 * (u + h / 1000000 * r + h % 1000000 * r / 1000000) + (v + h % 1000000 * r % 1000000) = sumV f n x idx (k + 1)) := Lib.hid (by rw [hsn, ← hh]; omega)
          have hv9 : v + h % 1000000 * r % 1000000 ≤ ((k + 1 : Nat) : Int) * 1000000 := by
            have : ((k + 1 : Nat) : Int) = (k : Int) + 1 := by omega
            rw [this, Int.add_mul]; omega
          have hm0 : 0 ≤ h / 1000000 := by omega
          have hm1 : 0 ≤ h % 1000000 := by omega
          have hm2 : 0 ≤ h % 1000000 * r / 1000000 := by omega
          have hm3 : h % 1000000 * r / 1000000 ≤ 1000000 := by omega
          have hm4 : 0 ≤ h % 1000000 * r % 1000000 := by omega
          have hm5 : h % 1000000 * r % 1000000 < 1000000 := by omega
          have HV9 := Lib.hid hv9
          clear hps hsn hh hv9 hs0 hs1 v1
          go_wp2
          exact ⟨⟨k + 1, _, _, by omega, by go_num, rfl, rfl, by omega, by omega, HV9.out, HS2, HPk⟩, by simp [RowKit.intOf]; omega⟩
    · obtain rfl : k = n := by omega
      have hT9 := HT.out k hk HP.out (fun h => absurd h (Nat.lt_irrefl _))
      rw [← HU.out] at hT9
      replace hT9 := Lib.hid hT9
      clear HU
      go_wp2
      refine bodyPost_ret (v := .tuple #[.int .i64 (u + v / 1000000), .int .i64 (v % 1000000)]) (by simp [results, Try.results27, go_sem]) rfl ⟨?_, rfl⟩
      rw [hT9.out, show (1000000 * u + v) / 1000000 = u + v / 1000000 by omega, show (1000000 * u + v) % 1000000 = v % 1000000 by omega]

end Go.Proofs.Ytbflgckmhhmklaa
