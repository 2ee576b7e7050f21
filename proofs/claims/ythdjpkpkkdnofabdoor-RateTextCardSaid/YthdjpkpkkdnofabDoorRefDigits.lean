/-
  What is proved: the contract of the document's own digits: how many digits a text has from a place on. Conditions: the text is shorter than 2^62 bytes, and the place lies in it or at its end.
-/
import Derived.Test.YthdjpkpkkdnofabDoorReadPass
namespace Go.Proofs.YthdjpkpkkdnofabDoor
open Go Go.RowKit Go.Sort Go.Lib Go.Proofs

theorem dn_at {d : ByteArray} {k : Nat} (hk : k < d.size) : dn (d.data.toList.drop k) = if isDig d[k] = true then dn (d.data.toList.drop (k + 1)) + 1 else 0 := by
  rw [List.drop_eq_getElem_cons (by rw [size_len]; exact hk)]
  split
  · rename_i h; exact dn_yes h
  · rename_i h; exact dn_no (Bool.eq_false_iff.2 h)
theorem dn_end {d : ByteArray} {k : Nat} (hk : d.size ≤ k) : dn (d.data.toList.drop k) = 0 := by
  rw [List.drop_eq_nil_of_le (by rw [size_len]; exact hk)]; rfl

set_option maxHeartbeats 2000000 in
set_option maxRecDepth 100000 in
theorem rdigits2_any (s : ByteArray) (hs : s.size ≤ 4611686018427387904) (a : Nat) (ha : a ≤ s.size) (w : World) : Calls Tryd.prog 27 #[.string s, .int .i64 a] w fun e w' => e = .returned (.int .i64 (dn (s.data.toList.drop a) : Nat)) ∧ w = w' := by
  obtain ⟨R, hR⟩ : ∃ R, R = dn (s.data.toList.drop a) := ⟨_, rfl⟩
  rw [← hR]
  have HR := Lib.hid hR
  clear hR
  go_enter Tryd.func27, Tryd.ntmps27
  go_wp2
  go_loop [5] (fun i => ∃ k : Nat, a + k ≤ s.size ∧ i = .int .i64 k ∧ Hid (R = k + dn (s.data.toList.drop (a + k)))) (fun i => s.size - (RowKit.intOf i).toNat)
  case atStart => exact ⟨0, ha, rfl, Lib.hid (by rw [HR.out]; simp)⟩
  case round =>
    obtain ⟨k, hk, rfl, HK⟩ := hrel
    obtain ⟨m, hm⟩ : ∃ m, m = a + k := ⟨_, rfl⟩
    have e1 : (a : Int) + (k : Int) = (m : Int) := by omega
    rw [← hm] at hk HK
    by_cases hlt : m < s.size
    · by_cases h48 : s[m].toNat < 48
      · obtain rfl : R = k := by rw [HK.out, dn_at hlt, if_neg (by rw [isDig_iff]; omega)]; omega
        clear HK hm
        go_wp2
        go_ret
        exact ⟨rfl, rfl⟩
      by_cases h57 : 57 < s[m].toNat
      · obtain rfl : R = k := by rw [HK.out, dn_at hlt, if_neg (by rw [isDig_iff]; omega)]; omega
        clear HK hm
        go_wp2
        go_ret
        exact ⟨rfl, rfl⟩
      have HN : Hid (R = (k + 1) + dn (s.data.toList.drop (a + (k + 1)))) := Lib.hid (by
        rw [HK.out, dn_at hlt, if_pos (isDig_iff.2 (by omega)), hm, Nat.add_assoc]; omega)
      clear HK
      have hk2 : a + (k + 1) ≤ s.size := by omega
      have hmes : k < s.size := by omega
      clear hm
      go_wp2
      go_round
      case rel => exact ⟨k + 1, hk2, by go_num, HN⟩
      case measure => simp [RowKit.intOf]; omega
    · obtain rfl : R = k := by rw [HK.out, dn_end (by omega)]; omega
      clear HK hm
      go_wp2
      go_ret
      exact ⟨rfl, rfl⟩

theorem rdigits3 (s : ByteArray) (hs : s.size ≤ 4611686018427387904) (z : Int) (h0 : 0 ≤ z) (ha : z ≤ s.size) (w : World) : Calls Tryd.prog 27 #[.string s, .int .i64 z] w fun e w' => ∃ n : Nat, e = .returned (.int .i64 n) ∧ Hid (dn (s.data.toList.drop z.toNat) = n) ∧ z.toNat + n ≤ s.size ∧ w = w' := by
  obtain ⟨a, rfl⟩ := Int.eq_ofNat_of_zero_le h0
  rw [Int.toNat_natCast]
  refine (rdigits2_any s hs a (by omega) w).mono ?_
  rintro e w' ⟨rfl, rfl⟩
  have := dn_le (s.data.toList.drop a)
  rw [List.length_drop, size_len] at this
  exact ⟨_, rfl, Lib.hid rfl, by omega, rfl⟩

end Go.Proofs.YthdjpkpkkdnofabDoor
