/-
  What is proved: the contract of civil.To with the world behind it told as the one ahead with a new block. Conditions: as it says.
-/
import Derived.Test.YtpejdbnphjheeaaDoorLvB
import Derived.Sort.Grow
namespace Go.Proofs.YtpejdbnphjheeaaDoor.Cv
open Go Go.RowKit Go.Proofs

set_option maxHeartbeats 1000000 in
theorem of_grow (y m d : Int) (h : okB y m d = true) (w : World) (hL : Len w) : Calls Tryd.prog 47 #[.agg #[.int .i64 y, .int .i64 m, .int .i64 d]] w fun e w' => e = .returned (.tuple #[.int .i64 (num y m d), .int .i64 0]) ∧ ∃ q os', w' = Go.Sort.grow (w.drewN q) os' := by
  have hL2 := hL.alloc (.cells #[.int .i64 y, .int .i64 m, .int .i64 d] 51)
  obtain ⟨y1, y2, m1, m2, dd1, dd2⟩ := okB_iff.1 h
  have hdb := dim_bd y m
  have hjb := jan_bd y y1 (by omega)
  have d1 : decide (d < 1) = false := decide_eq_false (by omega)
  have d2 : decide (mdV y m < d) = false := by rw [mdV_in y1 y2 m1 m2]; exact decide_eq_false (by omega)
  have dd3 : d ≤ 31 := by omega
  clear h dd2
  go_enter Tryd.func47, Tryd.ntmps47
  go_wp2
  go_quiet ((go_at_call 33; exact Calls.quiet_of_same (md_q _ _ _ (hL2.drewN _))))
  go_wp2_with (go_at_call 32; refine (jan_any _ (by omega) (by omega) _).mono ?_; rintro e w' ⟨rfl, rfl⟩)
  go_loop [4, 5] (fun dv mv => ∃ k : Int, 1 ≤ k ∧ k ≤ m ∧ mv = .int .i64 k ∧ dv = .int .i64 (jan y + cum y k)) (fun _ mv => (m - RowKit.intOf mv).toNat)
  case atStart => exact ⟨1, by omega, m1, rfl, by rw [cum_one]; simp⟩
  case round =>
    obtain ⟨k, k1, k2, rfl, rfl⟩ := hrel
    have hcb := cum_bd y k
    have hkb := dim_bd y k
    by_cases hlt : k < m
    · have HS := Lib.hid (cum_succ y k k1 (by omega))
      have HM := Lib.hid (mdV_in (m := k) y1 y2 k1 (by omega))
      have hmb := mdV_bd y k
      go_wp2_with (go_at_call 33; refine (md_any _ _ _ (hL2.drewN _)).mono ?_; rintro e w' ⟨rfl, rfl⟩)
      go_round
      case rel => exact ⟨k + 1, by omega, by omega, rfl, congrArg (Value.int .i64) (by rw [HS.out, HM.out]; omega)⟩
      case measure => simp [RowKit.intOf]; omega
    · obtain rfl : k = m := by omega
      go_wp2
      go_ret2
      exact ⟨ret_pair (by unfold num; omega), _, _, by rw [Go.Sort.alloc_eq_grow]; rfl⟩

set_option maxHeartbeats 2000000 in
theorem to_grow (y m d n : Int) (h : okB y m d = true) (hn : num y m d = n) (w : World) (hL : Len w) : Calls Tryd.prog 19 #[.int .i64 n] w fun e w' => e = .returned (.agg #[.int .i64 y, .int .i64 m, .int .i64 d]) ∧ ∃ q os', w' = Go.Sort.grow (w.drewN q) os' := by
  have hL2 := fun o => hL.alloc o
  have HL := Lib.hid hL2
  obtain ⟨n1, n2⟩ := num_bd h
  obtain ⟨i1, i2, i3, i4⟩ := num_in h
  rw [hn] at n1 n2 i1 i2 i3 i4
  have H := in_any n
  rw [inB_yes n1 n2] at H
  have HI := Lib.hid H
  obtain ⟨y1, y2, m1, m2, -, -⟩ := okB_iff.1 h
  have HD : Hid (d = n - jan y - cum y m + 1) := Lib.hid (by unfold num at hn; omega)
  have g0 : 1900 + (n + 25567) / 366 ≤ y := by
    have := jan_most 1900 (y + 1) (by omega)
    rw [jan_first] at this
    omega
  clear H h hn hL2
  go_enter Tryd.func19, Tryd.ntmps19
  go_wp2_with (go_at_call 31; refine (HI.out _).mono ?_; rintro e w' ⟨rfl, rfl⟩)
  go_loop [3] (fun t => ∃ z : Int, 1900 ≤ z ∧ z ≤ y ∧ t = .int .i64 z) (fun t => (y - RowKit.intOf t).toNat)
  case atStart => exact ⟨_, by omega, g0, rfl⟩
  case round =>
    obtain ⟨z, z1, z2, rfl⟩ := hrel
    clear g0
    by_cases hlt : z < y
    · have hj := jan_mono (z + 1) y (by omega)
      have hc : jan (z + 1) ≤ n := by omega
      go_wp2_with (go_at_call 32; refine (jan_any _ (by omega) (by omega) _).mono ?_; rintro e w' ⟨rfl, rfl⟩)
      go_round
      case rel => exact ⟨z + 1, by omega, by omega, rfl⟩
      case measure => simp [RowKit.intOf]; omega
    · obtain rfl : z = y := by omega
      have hjb := jan_bd z y1 (by omega)
      have hc : ¬ jan (z + 1) ≤ n := by omega
      go_wp2_with (go_at_call 32; refine (jan_any _ (by omega) (by omega) _).mono ?_; rintro e w' ⟨rfl, rfl⟩)
      clear hc
      go_loop [4, 5] (fun r k => ∃ q : Int, 1 ≤ q ∧ q ≤ m ∧ k = .int .i64 q ∧ r = .int .i64 (n - jan z - cum z q)) (fun _ k => (m - RowKit.intOf k).toNat)
      case atStart => exact ⟨1, by omega, m1, rfl, by rw [cum_one]; simp⟩
      case round =>
        obtain ⟨q, q1, q2, rfl, rfl⟩ := hrel
        have hcb := cum_bd z q
        have hdb := mdV_bd z q
        have HS := Lib.hid (cum_succ z q q1 (by omega))
        have HM := Lib.hid (mdV_in (m := q) y1 y2 q1 (by omega))
        by_cases hq : q < m
        · have hge : mdV z q ≤ n - jan z - cum z q := by
            have := cum_mono z q m q1 hq (by omega)
            rw [HM.out]; omega
          go_wp2_with (go_at_call 33; refine (md_any _ _ _ (HL.out _)).mono ?_; rintro e w' ⟨rfl, rfl⟩)
          go_round
          case rel => exact ⟨q + 1, by omega, by omega, rfl, congrArg (Value.int .i64) (by rw [HS.out, HM.out]; omega)⟩
          case measure => simp [RowKit.intOf]; omega
        · obtain rfl : q = m := by omega
          have hge : ¬ mdV z q ≤ n - jan z - cum z q := by
            have := HS.out
            rw [HM.out]; omega
          go_wp2_with (go_at_call 33; refine (md_any _ _ _ (HL.out _)).mono ?_; rintro e w' ⟨rfl, rfl⟩)
          obtain rfl := HD.out
          exact bodyPost_ret (v := .agg #[.int .i64 z, .int .i64 q, .int .i64 (n - jan z - cum z q + 1)]) (by simp [results, Tryd.results19, go_sem]) rfl ⟨rfl, 0, _, Go.Sort.alloc_eq_grow _ _⟩

end Go.Proofs.YtpejdbnphjheeaaDoor.Cv
