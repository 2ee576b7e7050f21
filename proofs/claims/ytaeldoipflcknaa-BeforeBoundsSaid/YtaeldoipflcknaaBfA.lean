/-
  What is proved: the contracts of cents' Least, Greatest and Clamp, of before's isAmount, and of the document's own Name, part and At. Conditions: as each says.
-/
import Derived.Test.YtaeldoipflcknaaSoD
import Derived.Test.YtaeldoipflcknaaRaG
import Derived.Test.YtaeldoipflcknaaMsB
import Derived.Lib.MinMax
import Derived.IntWalk
namespace Go.Proofs.Ytaeldoipflcknaa
open Go Go.RowKit Go.Lib Go.Proofs
open Ra (fitsB fitsB_iff)
set_option linter.unusedVariables false

theorem least_any (a b : Int) (w : World) : Calls Try.prog 26 #[.int .i64 a, .int .i64 b] w fun e w' => e = .returned (.int .i64 (min a b)) ∧ w = w' := by
  go_enter Try.func26, Try.ntmps26
  go_wp2
  go_ret
  exact ⟨rfl, rfl⟩
theorem great_any (a b : Int) (w : World) : Calls Try.prog 38 #[.int .i64 a, .int .i64 b] w fun e w' => e = .returned (.int .i64 (max a b)) ∧ w = w' := by
  go_enter Try.func38, Try.ntmps38
  go_wp2
  go_ret
  exact ⟨rfl, rfl⟩
theorem clamp_any (c a b : Int) (w : World) : Calls Try.prog 33 #[.int .i64 c, .int .i64 a, .int .i64 b] w fun e w' => e = .returned (.int .i64 (max a (min c b))) ∧ w = w' := by
  have H1 := Lib.hid (least_any c b w)
  have H2 := Lib.hid (great_any a (min c b) w)
  generalize min c b = m at H1 H2 ⊢
  generalize max a m = n at H2 ⊢
  go_enter Try.func33, Try.ntmps33
  go_wp2_with fail
  refine (H1.out).mono ?_
  rintro e w1 ⟨rfl, rfl⟩
  go_wp2_with fail
  refine (H2.out).mono ?_
  rintro e w1 ⟨rfl, rfl⟩
  go_wp2
  go_ret
  exact ⟨rfl, rfl⟩
/-- An amount that can be wanted, or taken. -/
def fit0 (c : Int) : Bool := decide (0 ≤ c) && decide (c ≤ 1125899906842624)
theorem fit0_iff {c : Int} : fit0 c = true ↔ 0 ≤ c ∧ c ≤ 1125899906842624 := by simp [fit0]
/-- A part of all. -/
def partB (r : Int) : Bool := decide (0 ≤ r) && decide (r ≤ 1000000)
theorem partB_iff {c : Int} : partB c = true ↔ 0 ≤ c ∧ c ≤ 1000000 := by simp [partB]
theorem amount_any (c : Int) (w : World) : Calls Try.prog 36 #[.int .i64 c] w fun e w' => e = .returned (.bool (fit0 c)) ∧ w = w' := by
  unfold fit0
  by_cases h1 : 0 ≤ c
  · rw [decide_eq_true h1, Bool.true_and]
    by_cases h2 : c ≤ 1125899906842624
    · rw [decide_eq_true h2]
      go_enter Try.func36, Try.ntmps36
      go_wp2
      go_ret
      exact ⟨rfl, rfl⟩
    · rw [decide_eq_false h2]
      go_enter Try.func36, Try.ntmps36
      go_wp2
      go_ret
      exact ⟨rfl, rfl⟩
  · rw [decide_eq_false h1, Bool.false_and]
    go_enter Try.func36, Try.ntmps36
    go_wp2
    go_ret
    exact ⟨rfl, rfl⟩

/-- A name. -/
def nameB (s : ByteArray) : Bool := nameL s.data.toList
theorem name_size {s : ByteArray} (h : nameB s = true) : s.size ≤ 32 := by
  unfold nameB nameL at h
  simp only [Bool.and_eq_true, decide_eq_true_eq] at h
  have := size_list s
  omega
set_option maxHeartbeats 1000000 in
theorem isName_max (s : ByteArray) (hs : s.size ≤ 9223372036854775807) (w : World) : Calls Try.prog 35 #[.string s] w fun e w' => e = .returned (.bool (nameL s.data.toList)) ∧ w = w' := by
  have hsz := size_list s
  have hl : s.toList = s.data.toList := ByteArray.toList_eq s
  by_cases h0 : s.data.toList = []
  · have e1 : s.toList = [] := by rw [hl, h0]
    rw [show nameL s.data.toList = false by rw [h0]; rfl]
    clear hl h0 hsz
    go_enter Try.func35, Try.ntmps35
    go_wp2
    go_ret
    exact ⟨rfl, rfl⟩
  · have hp : 0 < s.data.toList.length := List.length_pos_iff.2 h0
    have e1 : ¬ s.toList = [] := by rw [hl]; exact h0
    have e2 : s.toList.isEmpty = false := by rw [hl]; simpa using h0
    by_cases h1 : s.size ≤ 32
    · have e3 : (s.size : Int) ≤ 32 := by omega
      by_cases h2 : s.data.toList = [45]
      · have e4 : (s.toList == [45]) = true := by rw [hl, h2]; rfl
        rw [show nameL s.data.toList = false by rw [h2]; rfl]
        clear hl h0 hsz h2 hp
        go_enter Try.func35, Try.ntmps35
        go_wp2
        go_ret
        exact ⟨rfl, rfl⟩
      · have e4 : (s.toList == [45]) = false := by rw [hl]; simpa using h2
        have HN : Hid (nameL s.data.toList = s.data.toList.all okN) := Lib.hid (by
          unfold nameL
          rw [decide_eq_true (by omega), decide_eq_true (by omega), decide_eq_true h2]
          rfl)
        clear hl h0 h2 hp hsz
        go_enter Try.func35, Try.ntmps35
        go_wp2
        clear e4 e1 e2
        go_loop [3] (fun i => ∃ k : Nat, k ≤ s.size ∧ i = .int .i64 k ∧ Hid ((s.data.toList.take k).all okN = true)) (fun i => s.size - (RowKit.intOf i).toNat)
        case atStart => exact ⟨0, Nat.zero_le _, rfl, Lib.hid (by simp)⟩
        case round =>
          obtain ⟨k, hk, rfl, HA⟩ := hrel
          by_cases hlt : k < s.size
          · have HS := Lib.hid (all_take s k hlt HA.out)
            have HF := Lib.hid (all_not s k hlt)
            have HB := Lib.hid (fun W => nb_any s[k] W)
            generalize hb : okN s[k] = b at HS HF HB
            cases b
            · go_wp2_with fail
              refine (HB.out _).mono ?_
              rintro e w1 ⟨rfl, rfl⟩
              go_wp2
              go_ret
              exact ⟨retb (by rw [HN.out, HF.out (by first | rfl | trivial)]), rfl⟩
            · go_wp2_with fail
              refine (HB.out _).mono ?_
              rintro e w1 ⟨rfl, rfl⟩
              go_wp2
              go_round
              case rel => exact ⟨k + 1, by omega, by go_num, HS⟩
              case measure => simp [RowKit.intOf]; omega
          · obtain rfl : k = s.size := by omega
            go_wp2
            go_ret
            exact ⟨retb (by rw [HN.out, ← HA.out, List.take_of_length_le (by simp)]), rfl⟩
    · have e3 : ¬ (s.size : Int) ≤ 32 := by omega
      rw [show nameL s.data.toList = false by
        unfold nameL
        rw [decide_eq_false (p := s.data.toList.length < 33) (by omega), Bool.and_false, Bool.false_and, Bool.false_and]]
      clear hl h0 hp hsz
      go_enter Try.func35, Try.ntmps35
      go_wp2
      go_ret
      exact ⟨rfl, rfl⟩

set_option maxHeartbeats 2000000 in
theorem rName_any (s : ByteArray) (hs : s.size ≤ 9223372036854775807) (w : World) : Calls Try.prog 30 #[.string s] w fun e w' => e = .returned (.bool (nameB s)) ∧ w = w' := by
  unfold nameB
  have hsz := size_list s
  have hl : s.toList = s.data.toList := ByteArray.toList_eq s
  by_cases h0 : s.data.toList = []
  · have e1 : s.toList = [] := by rw [hl, h0]
    rw [show nameL s.data.toList = false by rw [h0]; rfl]
    clear hl h0 hsz
    go_enter Try.func30, Try.ntmps30
    go_wp2
    go_ret
    exact ⟨rfl, rfl⟩
  · have hp : 0 < s.data.toList.length := List.length_pos_iff.2 h0
    have e1 : ¬ s.toList = [] := by rw [hl]; exact h0
    have e2 : s.toList.isEmpty = false := by rw [hl]; simpa using h0
    by_cases h2 : s.data.toList = [45]
    · have e4 : (s.toList == [45]) = true := by rw [hl, h2]; rfl
      rw [show nameL s.data.toList = false by rw [h2]; rfl]
      clear hl h0 hsz h2 hp
      go_enter Try.func30, Try.ntmps30
      go_wp2
      go_ret
      exact ⟨rfl, rfl⟩
    have e4 : (s.toList == [45]) = false := by rw [hl]; simpa using h2
    by_cases h1 : s.size ≤ 32
    · have e3 : (s.size : Int) ≤ 32 := by omega
      have HN : Hid (nameL s.data.toList = s.data.toList.all okN) := Lib.hid (by
        unfold nameL
        rw [decide_eq_true (by omega), decide_eq_true (by omega), decide_eq_true h2]
        rfl)
      clear hl h0 h2 hp hsz
      go_enter Try.func30, Try.ntmps30
      go_wp2
      clear e4 e1 e2
      go_loop [3] (fun i => ∃ k : Nat, k ≤ s.size ∧ i = .int .i64 k ∧ Hid ((s.data.toList.take k).all okN = true)) (fun i => s.size - (RowKit.intOf i).toNat)
      case atStart => exact ⟨0, Nat.zero_le _, rfl, Lib.hid (by simp)⟩
      case round =>
        obtain ⟨k, hk, rfl, HA⟩ := hrel
        by_cases hlt : k < s.size
        · have HS := Lib.hid (all_take s k hlt HA.out)
          have HF := Lib.hid (all_not s k hlt)
          rcases okN_ways s[k] with ⟨o, a1, a2⟩ | ⟨o, a1, a2, g1, g2, e1, e2, e3⟩ | ⟨o, a1, g1, g2⟩ | ⟨o, a1, g1, e1⟩ | ⟨o, a1, g1, g2, e1, e2⟩ | ⟨o, a1, g1, e1, e2, e3⟩ | ⟨o, a1, g1, e1, e2, e3⟩ | ⟨o, a1, g1, g2, e1, e2, e3⟩
          all_goals
            have HO := Lib.hid o
            clear o
            go_wp2
            first
            | (go_ret
               exact ⟨retb (by rw [HN.out, HF.out HO.out]), rfl⟩)
            | (go_round
               case rel => exact ⟨k + 1, by omega, by go_num, Lib.hid (by rw [HS.out, HO.out])⟩
               case measure => simp [RowKit.intOf]; omega)
        · obtain rfl : k = s.size := by omega
          go_wp2
          go_ret
          exact ⟨retb (by rw [HN.out, ← HA.out, List.take_of_length_le (by simp)]), rfl⟩
    · have e3 : ¬ (s.size : Int) ≤ 32 := by omega
      rw [show nameL s.data.toList = false by
        unfold nameL
        rw [decide_eq_false (p := s.data.toList.length < 33) (by omega), Bool.and_false, Bool.false_and, Bool.false_and]]
      clear hl h0 hp hsz
      go_enter Try.func30, Try.ntmps30
      go_wp2
      go_ret
      exact ⟨rfl, rfl⟩

/-- A gross' part, to the nearest. -/
def partP (g m : Int) : Int := Ra.rnd 1 1000000 (g * m)
theorem partP_bd {g m : Int} (h0 : 0 ≤ g) (h1 : g ≤ 1125899906842624) (hm : partB m = true) : 0 ≤ partP g m ∧ partP g m ≤ g := by
  obtain ⟨r0, r1⟩ := partB_iff.1 hm
  have n0 : 0 ≤ g * m := Int.mul_nonneg h0 r0
  have n1 : g * m ≤ g * 1000000 := Int.mul_le_mul_of_nonneg_left r1 h0
  have k0 := Ra.rnd_rises 1 1000000 0 (g * m) n0
  have k1 := Ra.rnd_rises 1 1000000 (g * m) (g * 1000000) n1
  rw [show Ra.rnd 1 1000000 (g * 1000000) = g from Ra.rnd_exact 1 1000000 (by omega) g] at k1
  rw [show Ra.rnd 1 1000000 0 = 0 from by decide] at k0
  exact ⟨k0, k1⟩
theorem partP_all (g : Int) : partP g 1000000 = g := Ra.rnd_exact 1 1000000 (by omega) g
theorem of_part {g m : Int} (h0 : 0 ≤ g) (h1 : g ≤ 1125899906842624) (hm : partB m = true) : Ra.ofVE g m 1 = (partP g m, 0) := by
  obtain ⟨r0, r1⟩ := partB_iff.1 hm
  have e := Ra.partVE_val g m 1000000 1 (fitsB_iff.2 ⟨by omega, h1⟩) (by omega) (by omega) (by omega)
  rw [show (1000000 : Int).toNat = 1000000 from rfl] at e
  have := partP_bd h0 h1 hm
  unfold partP at this ⊢
  unfold Ra.ofVE
  rw [if_pos (Ra.rightB_iff.2 ⟨by omega, by omega⟩), e, if_pos (by omega)]
/-- How the document reckons it. -/
theorem partP_way {g m : Int} (h0 : 0 ≤ g) (hm0 : 0 ≤ m) : partP g m = g / 1000000 * m + g % 1000000 * m / 1000000 + (if 1000000 ≤ 2 * (g % 1000000 * m % 1000000) then 1 else 0) := by
  have n0 : 0 ≤ g * m := Int.mul_nonneg h0 hm0
  have e : g * m = g % 1000000 * m + 1000000 * (g / 1000000 * m) := by
    have h := Int.emod_add_mul_ediv g 1000000
    calc g * m = (g % 1000000 + 1000000 * (g / 1000000)) * m := by rw [h]
      _ = g % 1000000 * m + 1000000 * (g / 1000000 * m) := by rw [Int.add_mul, Int.mul_assoc]
  have d : g * m / 1000000 = g % 1000000 * m / 1000000 + g / 1000000 * m := by rw [e, Int.add_mul_ediv_left _ _ (by omega)]
  have r : g * m % 1000000 = g % 1000000 * m % 1000000 := by rw [e, Int.add_mul_emod_self_left]
  unfold partP Ra.rnd
  rw [if_neg (by omega)]
  generalize g * m = X at n0 d r
  generalize g % 1000000 * m = Y at d r ⊢
  generalize g / 1000000 * m = Z at d ⊢
  clear e
  obtain ⟨n, rfl⟩ : ∃ n : Nat, X = n := ⟨X.toNat, by omega⟩
  unfold Ra.roundQ
  rw [Int.natAbs_natCast]
  by_cases c : 1000000 ≤ 2 * (n % 1000000)
  · rw [if_pos (show Ra.awayB 1 false _ (n % 1000000) 1000000 = true from decide_eq_true c), if_pos (by omega)]; omega
  · rw [if_neg (show ¬ Ra.awayB 1 false _ (n % 1000000) 1000000 = true from fun h => c (of_decide_eq_true h)), if_neg (by omega)]; omega
set_option maxHeartbeats 1000000 in
theorem rpart_any (g m : Int) (h0 : 0 ≤ g) (h1 : g ≤ 1125899906842624) (m0 : 0 ≤ m) (m1 : m ≤ 1000000) (w : World) : Calls Try.prog 31 #[.int .i64 g, .int .i64 m] w fun e w' => e = .returned (.int .i64 (partP g m)) ∧ w = w' := by
  have hp := partP_way h0 m0
  have hb := partP_bd h0 h1 (partB_iff.2 ⟨m0, m1⟩)
  have q0 : 0 ≤ g / 1000000 := Int.ediv_nonneg h0 (by omega)
  have q1 : g / 1000000 ≤ 1125899906 := by omega
  have r0 : 0 ≤ g % 1000000 := by omega
  have r1 : g % 1000000 ≤ 999999 := by omega
  have t1 : g.tdiv 1000000 = g / 1000000 := Int.tdiv_eq_ediv_of_nonneg h0
  have t2 : g.tmod 1000000 = g % 1000000 := Int.tmod_eq_emod_of_nonneg h0
  generalize g / 1000000 = a at *
  generalize g % 1000000 = r at *
  have y0 : 0 ≤ r * m := Int.mul_nonneg r0 m0
  have y1 : r * m ≤ 999999 * 1000000 := Int.le_trans (Int.mul_le_mul_of_nonneg_right r1 m0) (Int.mul_le_mul_of_nonneg_left m1 (by omega))
  have z0 : 0 ≤ a * m := Int.mul_nonneg q0 m0
  have z1 : a * m ≤ 1125899906 * 1000000 := Int.le_trans (Int.mul_le_mul_of_nonneg_right q1 m0) (Int.mul_le_mul_of_nonneg_left m1 (by omega))
  have t3 : (r * m).tdiv 1000000 = r * m / 1000000 := Int.tdiv_eq_ediv_of_nonneg y0
  have t4 : (r * m).tmod 1000000 = r * m % 1000000 := Int.tmod_eq_emod_of_nonneg y0
  have u1 : RowKit.wrap64 (r * m) = r * m := by unfold RowKit.wrap64; omega
  have u2 : RowKit.wrap64 (a * m) = a * m := by unfold RowKit.wrap64; omega
  have v1 : IntKind.i64.wrap (r * m) = r * m := IntWalk.i64_in _ (by omega)
  have v2 : IntKind.i64.wrap (a * m) = a * m := IntWalk.i64_in _ (by omega)
  have c64 : RowKit.wrap64 (2 * (RowKit.wrap64 (r * m)).tmod 1000000) = 2 * (r * m % 1000000) := by rw [u1, t4]; unfold RowKit.wrap64; omega
  have d64 : RowKit.wrap64 (RowKit.wrap64 (a * m) + RowKit.wrap64 ((RowKit.wrap64 (r * m)).tdiv 1000000)) = a * m + r * m / 1000000 := by rw [u1, u2, t3]; unfold RowKit.wrap64; omega
  have e64 : RowKit.wrap64 (RowKit.wrap64 (RowKit.wrap64 (a * m) + RowKit.wrap64 ((RowKit.wrap64 (r * m)).tdiv 1000000)) + 1) = a * m + r * m / 1000000 + 1 := by rw [d64]; unfold RowKit.wrap64; omega
  clear t3 t4 u1 u2 v1 v2
  by_cases c : 1000000 ≤ 2 * (r * m % 1000000)
  · rw [if_pos c, ← e64] at hp
    rw [← c64] at c
    rw [hp]
    clear hp c64 d64 e64 hb y0 y1 z0 z1
    go_enter Try.func31, Try.ntmps31
    go_wp2
    go_ret
    exact ⟨rfl, rfl⟩
  · rw [if_neg c, Int.add_zero, ← d64] at hp
    rw [← c64] at c
    rw [hp]
    clear hp c64 d64 e64 hb y0 y1 z0 z1
    go_enter Try.func31, Try.ntmps31
    go_wp2
    go_ret
    exact ⟨rfl, rfl⟩

end Go.Proofs.Ytaeldoipflcknaa
