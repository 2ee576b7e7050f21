/-
  What is proved: the contracts of slices.swapRangeCmpFunc and slices.rotateCmpFunc over a row of places. Conditions: as each says.
-/
import Derived.Test.YtpejdbnphjheeaaDoorSsA
import Derived.RegionTactic
import Derived.BigRegion
namespace Go.Proofs.YtpejdbnphjheeaaDoor.Ss
open Go Go.RowKit Go.Proofs Go.Sort

set_option maxHeartbeats 8000000 in
set_option maxRecDepth 100000 in
theorem swapR_any (g n cap a b m : Nat) (v : Value) (K : Els) (f : Nat → Nat) (w : World) (hn : n ≤ 1000) (hab : a + m ≤ b) (hbn : b + m ≤ n) (hR : Row w g n K f) :
    Calls Tryd.prog 64 #[.slice (some ⟨g, 0, none⟩) n cap, .int .i64 a, .int .i64 b, .int .i64 m, v] w fun e w' => e = .returned (.tuple #[]) ∧ Row w' g n K (swR f a b m) ∧ But g w w' := by
  have HR := Lib.hid hR
  clear hR
  go_enter Tryd.func64, Tryd.ntmps64
  go_wp2
  go_loopw [10] (fun iv wr => ∃ k : Nat, k ≤ m ∧ iv = .int .i64 k ∧ Hid (Row wr g n K (swR f a b k)) ∧ But g w wr) (fun iv _ => m - (RowKit.intOf iv).toNat)
  case atStart => exact ⟨0, by omega, rfl, Lib.hid (by rw [swR_zero]; exact HR.out), But.refl _ _⟩
  case round =>
    obtain ⟨k, hk, rfl, HC, hb⟩ := hrel
    by_cases hkm : k < m
    · obtain ⟨ca, ca', fa, fa'⟩ := HC.out.2 (a + k) (by omega)
      obtain ⟨cb, cb', fb, fb'⟩ := HC.out.2 (b + k) (by omega)
      obtain ⟨x, hx⟩ : ∃ x, x = swR f a b k (a + k) := ⟨_, rfl⟩
      obtain ⟨y, hy⟩ : ∃ y, y = swR f a b k (b + k) := ⟨_, rfl⟩
      rw [← hx] at ca ca'
      rw [← hy] at cb cb'
      obtain ⟨x1, x2, x3⟩ := exch HC.out (a + k) (b + k) x y (by omega) (by omega) (by omega) hx hy
      unfold putE at x2 x3
      have HX := Lib.hid hx
      have HY := Lib.hid hy
      have s1 : IntKind.i64.wrap ((a : Int) + (k : Int)) = (a : Int) + (k : Int) := IntWalk.i64_in _ (by omega)
      have s2 : IntKind.i64.wrap ((b : Int) + (k : Int)) = (b : Int) + (k : Int) := IntWalk.i64_in _ (by omega)
      have s3 : ((a : Int) + (k : Int)).toNat = a + k := by omega
      have s4 : ((b : Int) + (k : Int)).toNat = b + k := by omega
      have s5 : (0 : Int) ≤ (a : Int) + (k : Int) := by omega
      have s6 : (0 : Int) ≤ (b : Int) + (k : Int) := by omega
      have s7 : (a : Int) + (k : Int) < (n : Int) := by omega
      have s8 : (b : Int) + (k : Int) < (n : Int) := by omega
      have s9 : a + k ≠ b + k := by omega
      clear hx hy
      go_wp2
      go_region
      go_wp2
      have HJ3 : Hid (Row (putE (putE wr g (a + k) K y) g (b + k) K x).drew g n K (swR f a b (k + 1))) := Lib.hid (by
        have h := HC.out.swap (a + k) (b + k)
        rw [← HX.out, ← HY.out, swR_succ f a b k (by omega)] at h
        exact h)
      exact ⟨⟨k + 1, by omega, by go_num, HJ3, (putE_below (putE_below hb (Nat.le_refl _) _ _ _) (Nat.le_refl _) _ _ _).drew⟩, by simp [RowKit.intOf]; omega⟩
    · obtain rfl : k = m := by omega
      go_wp2
      go_end0
      exact ⟨rfl, HC.out, hb⟩

set_option maxHeartbeats 8000000 in
set_option maxRecDepth 100000 in
theorem rotate_any (g n cap a m b : Nat) (v : Value) (K : Els) (f : Nat → Nat) (w : World) (hn : n ≤ 1000) (ham : a < m) (hmb : m < b) (hbn : b ≤ n) (hR : Row w g n K f) :
    Calls Tryd.prog 58 #[.slice (some ⟨g, 0, none⟩) n cap, .int .i64 a, .int .i64 m, .int .i64 b, v] w fun e w' => e = .returned (.tuple #[]) ∧ Row w' g n K (rotF f a m b) ∧ But g w w' := by
  have HR := Lib.hid hR
  obtain ⟨F, hF⟩ : ∃ F, F = rotF f a m b := ⟨_, rfl⟩
  rw [← hF]
  have HF := Lib.hid hF
  clear hR hF
  go_enter Tryd.func58, Tryd.ntmps58
  go_wp2
  go_loopw [10, 11] (fun iv jv wr => ∃ i j : Nat, ∃ c : Nat → Nat, 0 < i ∧ 0 < j ∧ i ≤ m ∧ m + j ≤ n ∧ iv = .int .i64 i ∧ jv = .int .i64 j ∧ Hid (Row wr g n K c) ∧ Hid (rotF c (m - i) m (m + j) = F) ∧ But g w wr) (fun iv jv _ => (RowKit.intOf iv).toNat + (RowKit.intOf jv).toNat)
  case atStart => exact ⟨m - a, b - m, f, by omega, by omega, by omega, by omega, congrArg (Value.int .i64) (by omega), congrArg (Value.int .i64) (by omega), HR, Lib.hid (by rw [HF.out, show m - (m - a) = a by omega, show m + (b - m) = b by omega]), But.refl _ _⟩
  case round =>
    obtain ⟨i, j, c, i1, j1, im, jn, rfl, rfl, HC, HE, hb⟩ := hrel
    by_cases hij : i = j
    · subst hij
      have hne : ((i : Int) != (i : Int)) = false := by simp
      have e1 : (m : Int) - (i : Int) = ((m - i : Nat) : Int) := by omega
      go_wp2_with fail
      refine (swapR_any g n cap (m - i) m i v K c _ hn (by omega) (by omega) HC.out).mono ?_
      rintro e w1 ⟨rfl, hR1, hb1⟩
      go_wp2
      go_end0
      refine ⟨rfl, ?_, hb.trans hb1⟩
      rw [← HE.out, ← rot_same c m i im]
      exact hR1
    · have hne : ((i : Int) != (j : Int)) = true := by simp; omega
      by_cases hlt : j < i
      · have e1 : (m : Int) - (i : Int) = ((m - i : Nat) : Int) := by omega
        go_wp2_with fail
        refine (swapR_any g n cap (m - i) m j v K c _ hn (by omega) (by omega) HC.out).mono ?_
        rintro e w1 ⟨rfl, hR1, hb1⟩
        go_wp2
        refine ⟨⟨i - j, j, swR c (m - i) m j, by omega, by omega, by omega, by omega, congrArg (Value.int .i64) (by omega), rfl, Lib.hid hR1, Lib.hid (by rw [rot_more c m i j im hlt]; exact HE.out), hb.trans hb1⟩, by simp [RowKit.intOf]; omega⟩
      · have e1 : (m : Int) - (i : Int) = ((m - i : Nat) : Int) := by omega
        have e2 : (m : Int) + (j : Int) - (i : Int) = ((m + j - i : Nat) : Int) := by omega
        go_wp2_with fail
        refine (swapR_any g n cap (m - i) (m + j - i) i v K c _ hn (by omega) (by omega) HC.out).mono ?_
        rintro e w1 ⟨rfl, hR1, hb1⟩
        go_wp2
        refine ⟨⟨i, j - i, swR c (m - i) (m + j - i) i, by omega, by omega, by omega, by omega, rfl, congrArg (Value.int .i64) (by omega), Lib.hid hR1, Lib.hid (by rw [rot_less c m i j im (by omega)]; exact HE.out), hb.trans hb1⟩, by simp [RowKit.intOf]; omega⟩

end Go.Proofs.YtpejdbnphjheeaaDoor.Ss
