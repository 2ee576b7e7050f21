/-
  What is proved: the contract of the document's millionths. Conditions: texts of digits, the second one of four at most.
-/
import Derived.Test.YtlfcmelencdghaaDoorLxJ
import Derived.IntWalk
namespace Go.Proofs.YtlfcmelencdghaaDoor
open Go Go.RowKit Go.Lib Go.Proofs
set_option linter.unusedVariables false

/-- What the document's millionths tell. -/
def satV (x y : List UInt8) : Nat := min (valN x) 1000000000001 * 1000000 + valN y * 10 ^ (6 - y.length)
theorem valN_snoc (l : List UInt8) (b : UInt8) : valN (l ++ [b]) = 10 * valN l + (b.toNat - 48) := by
  rw [valN_app]; simp [valN]; omega
theorem take_snoc (d : ByteArray) (k : Nat) (h : k < d.size) : d.data.toList.take (k + 1) = d.data.toList.take k ++ [d[k]] := by
  rw [List.take_succ_eq_append_getElem (by rw [size_len]; exact h)]; rfl
theorem valN_lt : ∀ (l : List UInt8), (∀ b ∈ l, isDg b = true) → valN l < 10 ^ l.length := by
  intro l
  induction l with
  | nil => intro _; simp [valN]
  | cons c r ih =>
    intro h
    have hc := h c (List.mem_cons_self ..)
    simp [isDg] at hc
    have := ih (fun b hb => h b (List.mem_cons_of_mem _ hb))
    rw [show c :: r = [c] ++ r from rfl, valN_app]
    have e : valN [c] = c.toNat - 48 := by simp [valN]
    have h9 : (c.toNat - 48) * 10 ^ r.length ≤ 9 * 10 ^ r.length := Nat.mul_le_mul_right _ (by omega)
    have hp : 10 ^ (([c] ++ r).length) = 10 * 10 ^ r.length := by simp [Nat.pow_succ]; omega
    rw [e, hp]; omega
theorem byte_num (b : UInt8) (h : isDg b = true) : 48 ≤ (b.toNat : Int) ∧ (b.toNat : Int) ≤ 57 := by
  simp [isDg] at h; omega
def pw5 (k : Nat) : Nat := 10 ^ (5 - k)
def pwX (y : List UInt8) (k : Nat) : Nat := valN (y.take k) * 10 ^ (6 - k)
theorem pw5_next {k : Nat} (h : k < 4) : pw5 k / 10 = pw5 (k + 1) ∧ pw5 k ≤ 100000 := by
  have e : k = 0 ∨ k = 1 ∨ k = 2 ∨ k = 3 := by omega
  rcases e with rfl | rfl | rfl | rfl <;> decide
theorem pwX_next {d : ByteArray} {k : Nat} (h : k < d.size) (h4 : d.size ≤ 4) : pwX d.data.toList (k + 1) = pwX d.data.toList k + (d[k].toNat - 48) * pw5 k := by
  unfold pwX pw5
  rw [take_snoc d k h, valN_snoc, Nat.add_mul]
  have e : 10 ^ (6 - k) = 10 * 10 ^ (6 - (k + 1)) := by rw [show 6 - k = (6 - (k + 1)) + 1 by omega, Nat.pow_succ]; omega
  rw [e, show 5 - k = 6 - (k + 1) by omega, Nat.mul_assoc]
  have : valN (d.data.toList.take k) * (10 * 10 ^ (6 - (k + 1))) = 10 * (valN (d.data.toList.take k) * 10 ^ (6 - (k + 1))) := by rw [← Nat.mul_assoc, Nat.mul_comm _ 10, Nat.mul_assoc]
  rw [this]

set_option maxHeartbeats 1000000 in
theorem refMill_any (x y : ByteArray) (hx : x.size ≤ 4611686018427387904) (hy : y.size ≤ 4) (h1 : ∀ b ∈ x.data.toList, isDg b = true) (h2 : ∀ b ∈ y.data.toList, isDg b = true) (w : World) :
    Calls Tryd.prog 29 #[.string x, .string y] w fun e w' => e = .returned (.int .i64 (satV x.data.toList y.data.toList : Int)) ∧ w = w' := by
  obtain ⟨R, hR⟩ : ∃ R, R = satV x.data.toList y.data.toList := ⟨_, rfl⟩
  rw [← hR]
  have HR := Lib.hid hR
  have HX := Lib.hid h1
  have HY := Lib.hid h2
  clear hR h1 h2
  go_enter Tryd.func29, Tryd.ntmps29
  go_wp2
  go_loop [5, 6] (fun nv iv => ∃ k n : Nat, k ≤ x.size ∧ iv = .int .i64 k ∧ nv = .int .i64 n ∧ n ≤ 1000000000001 ∧ Hid (n = min (valN (x.data.toList.take k)) 1000000000001)) (fun _ iv => x.size - (RowKit.intOf iv).toNat)
  case atStart => exact ⟨0, 0, by omega, rfl, rfl, by omega, Lib.hid (by simp [valN])⟩
  case round =>
    obtain ⟨k, n, hk, rfl, rfl, hn, HN⟩ := hrel
    by_cases hlt : k < x.size
    · have hd := HX.out x[k] (by rw [List.mem_iff_getElem?]; exact ⟨k, by rw [List.getElem?_eq_getElem (by rw [size_len]; exact hlt)]; rfl⟩)
      obtain ⟨b1, b2⟩ := byte_num _ hd
      have hsn : valN (x.data.toList.take (k + 1)) = 10 * valN (x.data.toList.take k) + (x[k].toNat - 48) := by rw [take_snoc x k hlt, valN_snoc]
      have HS := Lib.hid hsn
      have i1 : (k : Int) < (x.size : Int) := by omega
      clear hsn hd
      by_cases hbig : 1000000000000 < 10 * n + (x[k].toNat - 48)
      · have i2 : (1000000000000 : Int) < 10 * (n : Int) + ((x[k].toNat : Int) - 48) := by omega
        have HN2 : Hid (1000000000001 = min (valN (x.data.toList.take (k + 1))) 1000000000001) := Lib.hid (by rw [HS.out]; have := HN.out; omega)
        clear hbig
        go_wp2
        go_round
        case rel => exact ⟨k + 1, 1000000000001, by omega, by go_num, rfl, by omega, HN2⟩
        case measure => simp [RowKit.intOf]; omega
      · have i2 : ¬ (1000000000000 : Int) < 10 * (n : Int) + ((x[k].toNat : Int) - 48) := by omega
        have HN2 : Hid (10 * n + (x[k].toNat - 48) = min (valN (x.data.toList.take (k + 1))) 1000000000001) := Lib.hid (by rw [HS.out]; have := HN.out; omega)
        have hle2 : 10 * n + (x[k].toNat - 48) ≤ 1000000000001 := by omega
        have hcast : 10 * (n : Int) + ((x[k].toNat : Int) - 48) = ((10 * n + (x[k].toNat - 48) : Nat) : Int) := by omega
        have HC := Lib.hid hcast
        clear hbig hcast
        go_wp2
        go_round
        case rel => exact ⟨k + 1, 10 * n + (x[k].toNat - 48), by omega, by go_num, by rw [← HC.out], hle2, HN2⟩
        case measure => simp [RowKit.intOf]; omega
    · obtain rfl : k = x.size := by omega
      have HN2 : Hid (n = min (valN x.data.toList) 1000000000001) := Lib.hid (by rw [HN.out, List.take_of_length_le (by rw [size_len]; omega)])
      clear HN
      have HR2 : Hid (R = n * 1000000 + pwX y.data.toList y.size) := Lib.hid (by
        rw [HR.out, HN2.out]; unfold satV pwX; rw [List.take_of_length_le (by rw [size_len]; omega), size_len])
      clear HR HN2 hlt
      go_wp2
      go_loop [5, 7, 8] (fun nv uv iv => ∃ k m u : Nat, k ≤ y.size ∧ iv = .int .i64 k ∧ nv = .int .i64 m ∧ uv = .int .i64 u ∧ u ≤ 100000 ∧ m ≤ 1000000000001000000 + k * 900000 ∧ Hid (m = n * 1000000 + pwX y.data.toList k) ∧ Hid (u = pw5 k)) (fun _ _ iv => y.size - (RowKit.intOf iv).toNat)
      case atStart => exact ⟨0, n * 1000000, 100000, by omega, rfl, by go_num, rfl, by omega, by omega, Lib.hid (by simp [pwX, valN]), Lib.hid rfl⟩
      case round =>
        obtain ⟨k, m, u, hk, rfl, rfl, rfl, hu, hm, HM, HU⟩ := hrel
        by_cases hlt : k < y.size
        · have hd := HY.out y[k] (by rw [List.mem_iff_getElem?]; exact ⟨k, by rw [List.getElem?_eq_getElem (by rw [size_len]; exact hlt)]; rfl⟩)
          obtain ⟨b1, b2⟩ := byte_num _ hd
          have i1 : (k : Int) < (y.size : Int) := by omega
          obtain ⟨p1, p2⟩ := pw5_next (k := k) (by omega)
          have hpn := pwX_next hlt hy
          rw [← HU.out] at hpn p1
          have hmu : (y[k].toNat - 48) * u ≤ 900000 := Nat.le_trans (Nat.mul_le_mul (show y[k].toNat - 48 ≤ 9 by omega) hu) (by omega)
          have HM2 : Hid (m + (y[k].toNat - 48) * u = n * 1000000 + pwX y.data.toList (k + 1)) := Lib.hid (by rw [hpn, HM.out]; omega)
          have HU2 : Hid (u / 10 = pw5 (k + 1)) := Lib.hid p1
          have hc1 : ((y[k].toNat : Int) - 48) * (u : Int) = (((y[k].toNat - 48) * u : Nat) : Int) := by rw [Int.natCast_mul]; congr 1; omega
          have i2 : 0 ≤ ((y[k].toNat : Int) - 48) * (u : Int) ∧ ((y[k].toNat : Int) - 48) * (u : Int) ≤ 900000 := by rw [hc1]; omega
          obtain ⟨i3, i4⟩ := i2
          have hm2 : m + (y[k].toNat - 48) * u ≤ 1000000000001000000 + (k + 1) * 900000 := by omega
          have HC := Lib.hid hc1
          clear hpn p1 p2 hc1 HM HU hd hmu
          go_wp2
          go_round
          case rel => exact ⟨k + 1, m + (y[k].toNat - 48) * u, u / 10, by omega, by go_num, by rw [HC.out]; rfl, by rfl, by omega, hm2, HM2, HU2⟩
          case measure => simp [RowKit.intOf]; omega
        · obtain rfl : k = y.size := by omega
          obtain rfl : R = m := by rw [HR2.out, HM.out]
          go_wp2
          go_ret
          exact ⟨rfl, rfl⟩

end Go.Proofs.YtlfcmelencdghaaDoor
