/-
  What is proved: the contracts of the document's own bit and product: the bits of a product of two numbers of 64 bits. Conditions: the numbers are of 64 bits.
-/
import Derived.Test.YtibbgihcmcnamaaRaA
import Derived.Deep.QuietTactic
import Derived.BigQuiet
import Derived.WalkSmall
import Derived.IntWalk
import Derived.Deep.OwnRows
namespace Go.Proofs.Ytibbgihcmcnamaa.Ra
open Go Go.RowKit Go.Lib Go.Proofs

theorem div_pow (n k : Nat) : n / 2 ^ (k + 1) = n / 2 ^ k / 2 := by rw [Nat.pow_succ, Nat.div_div_eq_div_mul]

set_option maxHeartbeats 1000000 in
theorem bit_nat (n k : Nat) (hn : n < 18446744073709551616) (hk : k ≤ 1000) (w : World) : Calls Try.prog 53 #[.int .u64 n, .int .i64 k] w fun e w' => e = .returned (.int .u64 ((n / 2 ^ k % 2 : Nat) : Int)) ∧ w = w' := by
  obtain ⟨R, hR⟩ : ∃ R : Nat, R = n / 2 ^ k % 2 := ⟨_, rfl⟩
  rw [← hR]
  have HR := Lib.hid hR
  clear hR
  go_enter Try.func53, Try.ntmps53
  go_wp2
  go_loop [0, 5] (fun a i => ∃ j m : Nat, j ≤ k ∧ m < 18446744073709551616 ∧ i = .int .i64 j ∧ a = .int .u64 m ∧ Hid (m = n / 2 ^ j)) (fun _ i => k - (RowKit.intOf i).toNat)
  case atStart => exact ⟨0, n, Nat.zero_le _, hn, rfl, rfl, Lib.hid (by simp)⟩
  case round =>
    obtain ⟨j, m, hj, hm, rfl, rfl, HM⟩ := hrel
    by_cases hlt : j < k
    · obtain ⟨m2, hm2⟩ : ∃ m2 : Nat, m2 = m / 2 := ⟨_, rfl⟩
      have e : (m : Int) / 2 = (m2 : Int) := by omega
      have HN : Hid (m2 = n / 2 ^ (j + 1)) := Lib.hid (by rw [hm2, HM.out, div_pow])
      have hb : m2 < 18446744073709551616 := by omega
      clear hm2
      go_wp2
      go_round
      case rel => exact ⟨j + 1, m2, by omega, hb, by go_num, rfl, HN⟩
      case measure => simp [RowKit.intOf]; omega
    · have e : (m : Int) % 2 = (R : Int) := by
        have h1 := HM.out
        have h2 := HR.out
        rw [show j = k by omega] at h1
        rw [← h1] at h2
        omega
      go_wp2
      go_ret
      exact ⟨rfl, rfl⟩

theorem bit_any (n : Nat) (k : Int) (hn : n < 18446744073709551616) (k0 : 0 ≤ k) (k1 : k ≤ 1000) (w : World) : Calls Try.prog 53 #[.int .u64 n, .int .i64 k] w fun e w' => e = .returned (.int .u64 ((n / 2 ^ k.toNat % 2 : Nat) : Int)) ∧ w = w' := by
  obtain ⟨m, rfl⟩ := Int.eq_ofNat_of_zero_le k0
  rw [Int.toNat_natCast]
  exact bit_nat n m hn (by omega) w

/-- The number with these bits. -/
def bval (f : Nat → Nat) : Nat → Nat
  | 0 => 0
  | n + 1 => bval f n + f n * 2 ^ n
/-- A bit put at a place. -/
def putB (f : Nat → Nat) (p v : Nat) : Nat → Nat := fun j => if j = p then v else f j

theorem bval_out (f : Nat → Nat) (p v : Nat) : ∀ n, n ≤ p → bval (putB f p v) n = bval f n
  | 0, _ => rfl
  | n + 1, h => by
    have e : putB f p v n = f n := by unfold putB; rw [if_neg (by omega)]
    rw [bval, bval, bval_out f p v n (by omega), e]
theorem bval_put (f : Nat → Nat) (p v : Nat) : ∀ n, p < n → bval (putB f p v) n + f p * 2 ^ p = bval f n + v * 2 ^ p
  | n + 1, h => by
    by_cases hp : p = n
    · subst hp
      have e : putB f p v p = v := by unfold putB; rw [if_pos rfl]
      rw [bval, bval, bval_out f p v p (Nat.le_refl _), e]
      omega
    · have e : putB f p v n = f n := by unfold putB; rw [if_neg (by omega)]
      have ih := bval_put f p v n (by omega)
      rw [bval, bval, e]
      omega
theorem bval_zero : ∀ n, bval (fun _ => 0) n = 0
  | 0 => rfl
  | n + 1 => by rw [bval, bval_zero n, Nat.zero_mul]
theorem bval_lt (f : Nat → Nat) : ∀ n, (∀ j, j < n → f j < 2) → bval f n < 2 ^ n
  | 0, _ => by simp [bval]
  | n + 1, h => by
    have ih := bval_lt f n (fun j hj => h j (by omega))
    have h1 := h n (by omega)
    rw [bval, Nat.pow_succ]
    have h2 : f n * 2 ^ n ≤ 1 * 2 ^ n := Nat.mul_le_mul_right _ (by omega)
    omega
/-- Bits are told by the number. -/
theorem bval_bit (f : Nat → Nat) : ∀ n, (∀ j, j < n → f j < 2) → ∀ j, j < n → bval f n / 2 ^ j % 2 = f j
  | 0, _, j, hj => by omega
  | n + 1, h, j, hj => by
    have hlt := bval_lt f n (fun i hi => h i (by omega))
    by_cases hjn : j = n
    · subst hjn
      rw [bval, Nat.add_mul_div_right _ _ (Nat.two_pow_pos j), Nat.div_eq_of_lt hlt, Nat.zero_add]
      have := h j (by omega)
      omega
    · have ih := bval_bit f n (fun i hi => h i (by omega)) j (by omega)
      obtain ⟨d, hd⟩ : ∃ d, n = j + 1 + d := ⟨n - (j + 1), by omega⟩
      rw [bval]
      have e : f n * 2 ^ n = (f n * 2 ^ d * 2) * 2 ^ j := by
        have e2 : (2 : Nat) ^ n = 2 ^ d * (2 * 2 ^ j) := by
          rw [hd, Nat.pow_add, Nat.pow_succ, Nat.mul_comm (2 ^ j * 2) (2 ^ d), Nat.mul_comm (2 ^ j) 2]
        rw [e2]; simp only [Nat.mul_assoc]
      rw [e, Nat.add_mul_div_right _ _ (Nat.two_pow_pos j), Nat.add_mul_mod_self_right]
      exact ih

/-- The cells of a block from its first on hold these bits, and may be written. -/
def Bits (w : World) (g : Nat) (f : Nat → Nat) : Prop := (∀ j, j < 129 → w.cell? ⟨g, j, none⟩ = some (.int .u64 (f j))) ∧ (∀ j, j < 129 → w.frozen? ⟨g, j, none⟩ = false)

theorem Bits.store {w : World} {g : Nat} {f : Nat → Nat} (h : Bits w g f) (p v : Nat) (hp : p < 129) : Bits (w.setCell ⟨g, p, none⟩ (.int .u64 v)) g (putB f p v) := by
  refine ⟨fun j hj => ?_, fun j hj => ?_⟩
  · by_cases e : j = p
    · subst e
      rw [World.cell?_setCell_same _ _ _ (h.1 j hj)]
      unfold putB; rw [if_pos rfl]
    · rw [World.cell?_setCell_other _ _ _ _ (by intro h'; apply e; injection h' with _ h2 _; exact h2.symm)]
      unfold putB; rw [if_neg e]; exact h.1 j hj
  · rw [World.frozen?_setCell]; exact h.2 j hj
theorem Bits.drewN {w : World} {g : Nat} {f : Nat → Nat} (h : Bits w g f) (n : Nat) : Bits (w.drewN n) g f := ⟨fun j hj => h.1 j hj, fun j hj => h.2 j hj⟩

theorem bit_q (n : Nat) (k : Int) (hn : n < 18446744073709551616) (k0 : 0 ≤ k) (k1 : k ≤ 1000) (w : World) : Calls Try.prog 53 #[.int .u64 n, .int .i64 k] w fun e w' => e = .returned (.int .u64 ((n / 2 ^ k.toNat % 2 : Nat) : Int)) ∧ w' = w :=
  (bit_any n k hn k0 k1 w).mono fun _ _ h => ⟨h.1, h.2.symm⟩

theorem u64Info : (Try.prog.info? 79).map (fun i => (i.zero, i.size, i.bytes)) = some (some (.int .u64 0), 1, 8) := by kernel_rfl

theorem made_bits (w : World) (C : Array Value) (hC : C = madeCells #[.int .u64 0] 129) : Bits (w.alloc (.cells C 79)) w.heap.size (fun _ => 0) := by
  refine ⟨fun j hj => ?_, fun j hj => ?_⟩
  · rw [World.cell?_alloc_new, hC]
    unfold madeCells
    rw [Array.getElem?_map, Array.getElem?_range]
    simp [hj, Nat.mod_one]
  · rw [World.frozen?_alloc_new]

theorem mod_succ (a k : Nat) : a % 2 ^ (k + 1) = a % 2 ^ k + a / 2 ^ k % 2 * 2 ^ k := by
  rw [Nat.pow_succ, Nat.mod_mul, Nat.mul_comm (2 ^ k)]

theorem size_set (W : World) (p : Addr) (v : Value) {n : Nat} (h : n < W.heap.size) : n < (W.setCell p v).heap.size := by
  have := ((Below.refl 0 W).setCell (Nat.zero_le _) v (p := p)).size
  omega
theorem put_lt {f : Nat → Nat} {p v : Nat} (hv : v < 2) (h : ∀ t, t < 129 → f t < 2) : ∀ t, t < 129 → putB f p v t < 2 := by
  intro t ht
  unfold putB
  split
  · exact hv
  · exact h t ht
theorem add_step (f2 : Nat → Nat) (a b k j x bb cy nn v c2 : Nat) (hkj : k + j < 129) (hx : x = f2 (k + j)) (hbb : bb = b / 2 ^ j % 2) (he : nn = x + bb + cy ∧ v = nn % 2 ∧ c2 = nn / 2) (hv2 : v < 2)
    (h : bval f2 129 + cy * 2 ^ (k + j) = a % 2 ^ k * b + b % 2 ^ j * 2 ^ k ∧ ∀ t, t < 129 → f2 t < 2) :
    bval (putB f2 (k + j) v) 129 + c2 * 2 ^ (k + (j + 1)) = a % 2 ^ k * b + b % 2 ^ (j + 1) * 2 ^ k ∧ ∀ t, t < 129 → putB f2 (k + j) v t < 2 := by
  refine ⟨?_, put_lt hv2 h.2⟩
  have h1 := bval_put f2 (k + j) v 129 hkj
  rw [← hx] at h1
  have e1 : (2 : Nat) ^ (k + (j + 1)) = 2 * 2 ^ (k + j) := by rw [← Nat.add_assoc, Nat.pow_succ, Nat.mul_comm]
  have e2 : b % 2 ^ (j + 1) * 2 ^ k = b % 2 ^ j * 2 ^ k + bb * 2 ^ (k + j) := by
    rw [mod_succ, ← hbb, Nat.add_mul, Nat.mul_assoc, ← Nat.pow_add, Nat.add_comm j k]
  rw [e1, e2]
  have h2 := h.1
  generalize (2 : Nat) ^ (k + j) = P at *
  have h3 : x + bb + cy = v + 2 * c2 := by omega
  have h4 : x * P + bb * P + cy * P = v * P + c2 * (2 * P) := by
    rw [← Nat.add_mul, ← Nat.add_mul, h3, Nat.add_mul, Nat.mul_comm 2 c2, Nat.mul_assoc]
  omega
theorem carry_step (f3 : Nat → Nat) (T p x v c2 : Nat) (hp : p < 129) (hx : x = f3 p) (he : v = (x + 1) % 2 ∧ c2 = (x + 1) / 2) (hv2 : v < 2)
    (h : bval f3 129 + 1 * 2 ^ p = T ∧ ∀ t, t < 129 → f3 t < 2) :
    bval (putB f3 p v) 129 + c2 * 2 ^ (p + 1) = T ∧ ∀ t, t < 129 → putB f3 p v t < 2 := by
  refine ⟨?_, put_lt hv2 h.2⟩
  have h1 := bval_put f3 p v 129 hp
  rw [← hx] at h1
  have e1 : (2 : Nat) ^ (p + 1) = 2 * 2 ^ p := by rw [Nat.pow_succ, Nat.mul_comm]
  rw [e1]
  have h2 := h.1
  generalize (2 : Nat) ^ p = P at *
  have h3 : x + 1 = v + 2 * c2 := by omega
  have h4 : x * P + 1 * P = v * P + c2 * (2 * P) := by
    rw [← Nat.add_mul, h3, Nat.add_mul, Nat.mul_comm 2 c2, Nat.mul_assoc]
  omega
theorem carry_lt (a b k p X : Nat) (hb : b < 18446744073709551616) (hk : k < 64) (h : X + 2 ^ p = a % 2 ^ k * b + b * 2 ^ k) : p < 128 := by
  apply Nat.lt_of_not_le
  intro hp
  have h1 : (2 : Nat) ^ 128 ≤ 2 ^ p := Nat.pow_le_pow_right (by omega) hp
  have h2 : a % 2 ^ k < 2 ^ k := Nat.mod_lt _ (Nat.two_pow_pos k)
  have h3 : (2 : Nat) ^ (k + 1) ≤ 2 ^ 64 := Nat.pow_le_pow_right (by omega) (by omega)
  have h4 : a % 2 ^ k * b + b * 2 ^ k = (a % 2 ^ k + 2 ^ k) * b := by rw [Nat.add_mul, Nat.mul_comm b]
  have h5 : (a % 2 ^ k + 2 ^ k) * b ≤ 2 ^ 64 * b := Nat.mul_le_mul_right _ (by rw [Nat.pow_succ] at h3; omega)
  have h6 : (2 : Nat) ^ 64 * b < 2 ^ 64 * 2 ^ 64 := Nat.mul_lt_mul_of_pos_left (by simpa using hb) (Nat.two_pow_pos 64)
  rw [← Nat.pow_add] at h6
  rw [h4] at h
  have : (2 : Nat) ^ (64 + 64) = 2 ^ 128 := rfl
  omega

set_option maxHeartbeats 4000000 in
set_option maxRecDepth 100000 in
theorem product_any (a b : Nat) (ha : a < 18446744073709551616) (hb : b < 18446744073709551616) (w : World) :
    Calls Try.prog 51 #[.int .u64 a, .int .u64 b] w fun e w' => ∃ f : Nat → Nat, e = .returned (.slice (some ⟨w.heap.size, 0, none⟩) 128 129) ∧ Hid (bval f 129 = a * b ∧ ∀ j, j < 129 → f j < 2) ∧ Bits w' w.heap.size f ∧ Below w.heap.size w w' ∧ w.heap.size < w'.heap.size := by
  obtain ⟨C, hC⟩ : ∃ C, C = madeCells #[Value.int .u64 0] 129 := ⟨_, rfl⟩
  have hmk := run_make_row' (P := Try.prog) 85 79 (.int .u64 0) 8 Try.underlying85 u64Info rfl .i64 .i64 129 (by decide) (by decide) w
  rw [← hC] at hmk
  have hmk' : (Instr.makeSlice 85 (.int .i64 129) (.int .i64 129)).run Try.prog w = .ok (.slice (some ⟨w.heap.size, 0, none⟩) 129 129) (w.alloc (.cells C 79)) := hmk
  have hB0 := made_bits w C hC
  have hbel0 : Below w.heap.size w (w.alloc (.cells C 79)) := (Below.refl _ w).alloc (Nat.le_refl _) _
  have hsz0 : w.heap.size < (w.alloc (.cells C 79)).heap.size := by simp
  clear hmk hC
  go_enter Try.func51, Try.ntmps51
  go_wp2
  clear hmk'
  go_loopw [6] (fun i wr => ∃ (k : Nat) (f : Nat → Nat), k ≤ 64 ∧ i = .int .i64 k ∧ Hid (Bits wr w.heap.size f) ∧ Below w.heap.size w wr ∧ w.heap.size < wr.heap.size ∧ Hid (bval f 129 = a % 2 ^ k * b ∧ ∀ j, j < 129 → f j < 2)) (fun i _ => 64 - (RowKit.intOf i).toNat)
  case atStart => exact ⟨0, fun _ => 0, by omega, rfl, Lib.hid hB0, hbel0, hsz0, Lib.hid ⟨by rw [bval_zero, Nat.pow_zero, Nat.mod_one, Nat.zero_mul], fun j _ => by show 0 < 2; omega⟩⟩
  case round =>
    obtain ⟨k, f, hk, rfl, HB, hbel, hsz, HI⟩ := hrel
    by_cases hlt : k < 64
    · go_wp2_with fail
      refine (bit_any a k ha (by omega) (by omega) _).mono ?_
      rintro e w' ⟨rfl, rfl⟩
      rw [Int.toNat_natCast]
      obtain ⟨ab, hab⟩ : ∃ ab, ab = a / 2 ^ k % 2 := ⟨_, rfl⟩
      rw [← hab]
      have hab2 : ab < 2 := by omega
      have HAB := Lib.hid hab
      clear hab
      by_cases h0 : ab = 0
      · subst h0
        have HN : Hid (bval f 129 = a % 2 ^ (k + 1) * b ∧ ∀ j, j < 129 → f j < 2) := Lib.hid ⟨by rw [HI.out.1, mod_succ, ← HAB.out, Nat.zero_mul, Nat.add_zero], HI.out.2⟩
        go_wp2
        go_roundw
        case rel => exact ⟨k + 1, f, by omega, by go_num, HB, hbel, hsz, HN⟩
        case measure => simp [RowKit.intOf]; omega
      · obtain rfl : ab = 1 := by omega
        go_wp2
        go_loopw [7, 8] (fun c i wq => ∃ (j cy : Nat) (f2 : Nat → Nat), j ≤ 64 ∧ cy < 2 ∧ i = .int .i64 j ∧ c = .int .u64 cy ∧ Hid (Bits wq w.heap.size f2) ∧ Below w.heap.size w wq ∧ w.heap.size < wq.heap.size ∧ Hid (bval f2 129 + cy * 2 ^ (k + j) = a % 2 ^ k * b + b % 2 ^ j * 2 ^ k ∧ ∀ t, t < 129 → f2 t < 2)) (fun _ i _ => 64 - (RowKit.intOf i).toNat)
        case atStart => exact ⟨0, 0, f, by omega, by omega, rfl, rfl, HB, hbel, hsz, Lib.hid ⟨by rw [HI.out.1, Nat.pow_zero, Nat.mod_one, Nat.zero_mul, Nat.zero_mul], HI.out.2⟩⟩
        case round =>
          clear HB hbel hsz
          obtain ⟨j, cy, f2, hj, hcy, rfl, rfl, HB, hbel, hsz, HJ⟩ := hrel
          by_cases hlt2 : j < 64
          · have hc := HB.out.1 (k + j) (by omega)
            have hz := HB.out.2 (k + j) (by omega)
            have hf2 := HJ.out.2 (k + j) (by omega)
            obtain ⟨x, hx⟩ : ∃ x, x = f2 (k + j) := ⟨_, rfl⟩
            rw [← hx] at hc hf2
            have HX := Lib.hid hx
            clear hx
            obtain ⟨bb, hbb⟩ : ∃ bb, bb = b / 2 ^ j % 2 := ⟨_, rfl⟩
            have hbb2 : bb < 2 := by omega
            have hq : ∀ W, Calls Try.prog 53 #[.int .u64 b, .int .i64 j] W fun e w' => e = .returned (.int .u64 (bb : Int)) ∧ w' = W := fun W => by
              have h := bit_q b j hb (by omega) (by omega) W
              rwa [Int.toNat_natCast, ← hbb] at h
            have HQ := Lib.hid hq
            have HBB := Lib.hid hbb
            clear hq hbb
            obtain ⟨y, hy⟩ : ∃ y, y = x + bb := ⟨_, rfl⟩
            obtain ⟨nn, hnn⟩ : ∃ nn, nn = y + cy := ⟨_, rfl⟩
            obtain ⟨v, hv⟩ : ∃ v, v = nn % 2 := ⟨_, rfl⟩
            obtain ⟨c2, hc2⟩ : ∃ c2, c2 = nn / 2 := ⟨_, rfl⟩
            have s1 : IntKind.i64.wrap ((k : Int) + (j : Int)) = (k : Int) + (j : Int) := IntWalk.i64_in _ (by omega)
            have s2 : (0 : Int) ≤ (k : Int) + (j : Int) := by omega
            have s3 : ((k : Int) + (j : Int)).toNat = k + j := by omega
            have s4 : (k : Int) + (j : Int) < 129 := by omega
            have u1 : IntKind.u64.wrap ((x : Int) + (bb : Int)) = (y : Int) := by rw [IntKind.wrap_u64]; omega
            have u2 : IntKind.u64.wrap ((y : Int) + (cy : Int)) = (nn : Int) := by rw [IntKind.wrap_u64]; omega
            have u3 : (nn : Int) % 2 = (v : Int) := by omega
            have u4 : (nn : Int) / 2 = (c2 : Int) := by omega
            have hc22 : c2 < 2 := by omega
            have hv2 : v < 2 := by omega
            have HE : Hid (nn = x + bb + cy ∧ v = nn % 2 ∧ c2 = nn / 2) := Lib.hid ⟨by omega, hv, hc2⟩
            clear hy hnn hv hc2
            go_wp2
            go_quiet ((go_at_call 53; exact Calls.quiet_of_same (HQ.out _)))
            go_wp2
            refine ⟨⟨j + 1, c2, putB f2 (k + j) v, by omega, hc22, by go_num, rfl, Lib.hid ((HB.out.drewN nq).store (k + j) v (by omega)), (below_drewN hbel nq).setCell (Nat.le_refl _) _, size_set _ _ _ hsz, Lib.hid (add_step f2 a b k j x bb cy nn v c2 (by omega) HX.out HBB.out HE.out hv2 HJ.out)⟩, by simp [RowKit.intOf]; omega⟩
          · obtain rfl : j = 64 := by omega
            have HJ2 : Hid (bval f2 129 + cy * 2 ^ (k + 64) = a % 2 ^ k * b + b * 2 ^ k ∧ ∀ t, t < 129 → f2 t < 2) := Lib.hid (by
              have h := HJ.out
              rwa [Nat.mod_eq_of_lt (show b < 2 ^ 64 by simpa using hb)] at h)
            clear HJ
            go_wp2
            go_loopw [7, 10] (fun c q wz => ∃ (p cy : Nat) (f3 : Nat → Nat), p ≤ 129 ∧ cy < 2 ∧ q = .int .i64 p ∧ c = .int .u64 cy ∧ Hid (Bits wz w.heap.size f3) ∧ Below w.heap.size w wz ∧ w.heap.size < wz.heap.size ∧ Hid (bval f3 129 + cy * 2 ^ p = a % 2 ^ k * b + b * 2 ^ k ∧ ∀ t, t < 129 → f3 t < 2)) (fun _ q _ => 129 - (RowKit.intOf q).toNat)
            case atStart => exact ⟨k + 64, cy, f2, by omega, hcy, by go_num, rfl, HB, hbel, hsz, HJ2⟩
            case round =>
              clear HB hbel hsz HJ2 hcy
              obtain ⟨p, cy2, f3, hp, hcy, rfl, rfl, HB, hbel, hsz, HP⟩ := hrel
              by_cases hc0 : cy2 = 0
              · subst hc0
                have HN : Hid (bval f3 129 = a % 2 ^ (k + 1) * b ∧ ∀ t, t < 129 → f3 t < 2) := Lib.hid ⟨by
                  have h := HP.out.1
                  rw [Nat.zero_mul, Nat.add_zero] at h
                  rw [h, mod_succ, ← HAB.out, Nat.one_mul, Nat.add_mul, Nat.mul_comm b], HP.out.2⟩
                go_wp2
                go_roundw
                case rel => exact ⟨k + 1, f3, by omega, by go_num, HB, hbel, hsz, HN⟩
                case measure => simp [RowKit.intOf]; omega
              · obtain rfl : cy2 = 1 := by omega
                have hp128 : p < 128 := carry_lt a b k p (bval f3 129) hb hlt (by have h := HP.out.1; rwa [Nat.one_mul] at h)
                have hc := HB.out.1 p (by omega)
                have hz := HB.out.2 p (by omega)
                have hf3 := HP.out.2 p (by omega)
                obtain ⟨x, hx⟩ : ∃ x, x = f3 p := ⟨_, rfl⟩
                rw [← hx] at hc hf3
                have HX := Lib.hid hx
                clear hx
                obtain ⟨v, hv⟩ : ∃ v, v = (x + 1) % 2 := ⟨_, rfl⟩
                obtain ⟨c2, hc2⟩ : ∃ c2, c2 = (x + 1) / 2 := ⟨_, rfl⟩
                obtain ⟨y, hy⟩ : ∃ y, y = x + 1 := ⟨_, rfl⟩
                have u0 : IntKind.u64.wrap ((x : Int) + 1) = (y : Int) := by rw [IntKind.wrap_u64]; omega
                have u00 : (x : Int) + 1 = (y : Int) := by omega
                have u3 : (y : Int) % 2 = (v : Int) := by omega
                have u4 : (y : Int) / 2 = (c2 : Int) := by omega
                have hc22 : c2 < 2 := by omega
                have hv2 : v < 2 := by omega
                have HE : Hid (v = (x + 1) % 2 ∧ c2 = (x + 1) / 2) := Lib.hid ⟨hv, hc2⟩
                clear hv hc2 hy
                go_wp2
                refine ⟨⟨p + 1, c2, putB f3 p v, by omega, hc22, by go_num, rfl, Lib.hid (HB.out.store p v (by omega)), hbel.setCell (Nat.le_refl _) _, size_set _ _ _ hsz, Lib.hid (carry_step f3 _ p x v c2 (by omega) HX.out HE.out hv2 HP.out)⟩, by simp [RowKit.intOf]; omega⟩
    · obtain rfl : k = 64 := by omega
      have HN : Hid (bval f 129 = a * b ∧ ∀ j, j < 129 → f j < 2) := Lib.hid (by
        have h := HI.out
        rwa [Nat.mod_eq_of_lt (show a < 2 ^ 64 by simpa using ha)] at h)
      clear HI
      go_wp2
      go_ret
      exact ⟨f, rfl, HN, HB.out, hbel, hsz⟩

end Go.Proofs.Ytibbgihcmcnamaa.Ra
