/-
  What is proved: the contracts of the document's own leap, begin and Check of calendars. Conditions: as each says.
-/
import Derived.Test.YtfmabjfibjnkoaaDoorPdT
namespace Go.Proofs.YtfmabjfibjnkoaaDoor
open Go Go.RowKit Go.Proofs
set_option linter.unusedVariables false

theorem rleap_any (y : Int) (h0 : 0 ≤ y) (w : World) : Calls Tryd.prog 44 #[.int .i64 y] w fun e w' => e = .returned (.bool (lpB y)) ∧ w = w' := by
  by_cases h4 : y % 4 = 0
  · have d4 : (y % 4 == 0) = true := by simp [h4]
    by_cases h1 : y % 100 = 0
    · have d1 : (y % 100 != 0) = false := by simp [h1]
      by_cases h2 : y % 400 = 0
      · rw [show lpB y = true by simp [lpB, h4, h2]]
        have d2 : (y % 400 == 0) = true := by simp [h2]
        clear h4 h1 h2
        go_enter Tryd.func44, Tryd.ntmps44
        go_wp2
        go_ret
        exact ⟨rfl, rfl⟩
      · rw [show lpB y = false by simp [lpB, h1, h2]]
        have d2 : (y % 400 == 0) = false := by simp [h2]
        clear h4 h1 h2
        go_enter Tryd.func44, Tryd.ntmps44
        go_wp2
        go_ret
        exact ⟨rfl, rfl⟩
    · rw [show lpB y = true by simp [lpB, h4, h1]]
      have d1 : (y % 100 != 0) = true := by simp [h1]
      clear h4 h1
      go_enter Tryd.func44, Tryd.ntmps44
      go_wp2
      go_ret
      exact ⟨rfl, rfl⟩
  · rw [show lpB y = false by simp [lpB, h4]]
    have d4 : (y % 4 == 0) = false := by simp [h4]
    have d5 : (y % 400 == 0) = false := by simp; omega
    clear h4
    go_enter Tryd.func44, Tryd.ntmps44
    go_wp2
    go_ret
    exact ⟨rfl, rfl⟩
theorem len_cell (m : Int) (h1 : 1 ≤ m) (h2 : m ≤ 12) : (#[.int .i64 31, .int .i64 28, .int .i64 31, .int .i64 30, .int .i64 31, .int .i64 30, .int .i64 31, .int .i64 31, .int .i64 30, .int .i64 31, .int .i64 30, .int .i64 31] : Array Value)[m.toNat - 1]? = some (.int .i64 (lenM m)) := by
  have e : m = 1 ∨ m = 2 ∨ m = 3 ∨ m = 4 ∨ m = 5 ∨ m = 6 ∨ m = 7 ∨ m = 8 ∨ m = 9 ∨ m = 10 ∨ m = 11 ∨ m = 12 := by omega
  rcases e with rfl | rfl | rfl | rfl | rfl | rfl | rfl | rfl | rfl | rfl | rfl | rfl <;> rfl

set_option maxHeartbeats 2000000 in
set_option maxRecDepth 100000 in
theorem begin_any (y m : Int) (h1 : 1900 ≤ y) (h2 : y ≤ 2200) (m1 : 1 ≤ m) (m2 : m ≤ 13) (w : World) : Calls Tryd.prog 34 #[.int .i64 y, .int .i64 m] w fun e w' => e = .returned (.int .i64 (jan y + cum y m)) ∧ Below w.heap.size w w' := by
  obtain ⟨W1, hW1⟩ : ∃ W1, W1 = w.alloc (.cells #[.int .i64 31, .int .i64 28, .int .i64 31, .int .i64 30, .int .i64 31, .int .i64 30, .int .i64 31, .int .i64 31, .int .i64 30, .int .i64 31, .int .i64 30, .int .i64 31] 3) := ⟨_, rfl⟩
  have hb0 : Below w.heap.size w W1 := by rw [hW1]; exact (Below.refl w.heap.size w).alloc (Nat.le_refl _) _
  have HX : Hid (∀ q : Int, 1 ≤ q → q ≤ 12 → W1.cell? ⟨w.heap.size, q.toNat - 1, none⟩ = some (.int .i64 (lenM q))) := Lib.hid (fun q a b => by rw [hW1, World.cell?_alloc_new]; exact len_cell q a b)
  have HLP := Lib.hid (fun z h W => rleap_any z h W)
  have hjb := jan_bd y h1 h2
  have hcb0 := cum_bd y m
  go_enter Tryd.func34, Tryd.ntmps34
  go_wp2
  go_loop [5, 6] (fun dv zv => ∃ z : Int, 1900 ≤ z ∧ z ≤ y ∧ zv = .int .i64 z ∧ dv = .int .i64 (jan z)) (fun _ zv => (y - RowKit.intOf zv).toNat)
  case atStart => exact ⟨1900, by omega, h1, rfl, by rw [jan_first]⟩
  case round =>
    obtain ⟨z, z1, z2, rfl, rfl⟩ := hrel
    have hzb := jan_bd z z1 (by omega)
    by_cases hlt : z < y
    · have hs := jan_succ z
      have hl := HLP.out z (by omega)
      cases hb : lpB z with
      | true =>
        rw [hb] at hl
        rw [lp_yes hb] at hs
        have HL := Lib.hid hl
        have HS := Lib.hid hs
        clear hl hs hb
        go_wp2_with fail
        refine (HL.out _).mono ?_
        rintro e w' ⟨rfl, rfl⟩
        go_wp2
        go_round
        case rel => exact ⟨z + 1, by omega, by omega, rfl, congrArg (Value.int .i64) HS.out.symm⟩
        case measure => simp [RowKit.intOf]; omega
      | false =>
        rw [hb] at hl
        rw [lp_no hb] at hs
        have HL := Lib.hid hl
        have HS : Hid (jan z + 365 = jan (z + 1)) := Lib.hid (by omega)
        clear hl hs hb
        go_wp2_with fail
        refine (HL.out _).mono ?_
        rintro e w' ⟨rfl, rfl⟩
        go_wp2
        go_round
        case rel => exact ⟨z + 1, by omega, by omega, rfl, congrArg (Value.int .i64) HS.out⟩
        case measure => simp [RowKit.intOf]; omega
    · obtain rfl : z = y := by omega
      clear hlt z1 z2
      go_wp2
      rw [← hW1]
      clear hW1
      go_loop [5, 8] (fun dv qv => ∃ q : Int, 1 ≤ q ∧ q ≤ m ∧ qv = .int .i64 q ∧ dv = .int .i64 (jan z + cum z q)) (fun _ qv => (m - RowKit.intOf qv).toNat)
      case atStart => exact ⟨1, by omega, m1, rfl, by rw [cum_one]; simp⟩
      case round =>
        obtain ⟨q, q1, q2, rfl, rfl⟩ := hrel
        have hcb := cum_bd z q
        by_cases hlt : q < m
        · have xq := HX.out q q1 (by omega)
          have hs := cum_succ z q q1 (by omega)
          have hq0 : 0 ≤ q - 1 := by omega
          have hq12 : q - 1 < 12 := by omega
          have hlen : 28 ≤ lenM q ∧ lenM q ≤ 31 := by unfold lenM; repeat' split
                                                      all_goals omega
          by_cases hq2 : q = 2
          · subst hq2
            have hl := HLP.out z (by omega)
            have hd : dim z 2 = 28 + lp z := rfl
            rw [hd] at hs
            have xq' : W1.cell? ⟨w.heap.size, 1, none⟩ = some (.int .i64 28) := xq
            clear xq hlen hd
            cases hb : lpB z with
            | true =>
              rw [hb] at hl
              rw [lp_yes hb] at hs
              have HL := Lib.hid hl
              have HS : Hid (jan z + cum z 2 + 28 + 1 = jan z + cum z (2 + 1)) := Lib.hid (by omega)
              clear hl hs hb
              go_wp2_with fail
              refine (HL.out _).mono ?_
              rintro e w' ⟨rfl, rfl⟩
              go_wp2
              go_round
              case rel => exact ⟨2 + 1, by omega, by omega, rfl, congrArg (Value.int .i64) HS.out⟩
              case measure => simp [RowKit.intOf]; omega
            | false =>
              rw [hb] at hl
              rw [lp_no hb] at hs
              have HL := Lib.hid hl
              have HS : Hid (jan z + cum z 2 + 28 = jan z + cum z (2 + 1)) := Lib.hid (by omega)
              clear hl hs hb
              go_wp2_with fail
              refine (HL.out _).mono ?_
              rintro e w' ⟨rfl, rfl⟩
              go_wp2
              go_round
              case rel => exact ⟨2 + 1, by omega, by omega, rfl, congrArg (Value.int .i64) HS.out⟩
              case measure => simp [RowKit.intOf]; omega
          · have hd : dim z q = lenM q := by unfold dim; rw [if_neg hq2]
            rw [hd] at hs
            have e2 : (q == 2) = false := by simpa using hq2
            have HS : Hid (jan z + cum z q + lenM q = jan z + cum z (q + 1)) := Lib.hid (by omega)
            generalize lenM q = L at *
            clear hs hd hq2
            go_wp2
            go_round
            case rel => exact ⟨q + 1, by omega, by omega, rfl, congrArg (Value.int .i64) HS.out⟩
            case measure => simp [RowKit.intOf]; omega
        · obtain rfl : q = m := by omega
          go_wp2
          go_ret
          exact ⟨rfl, hb0⟩

theorem rCheck_any (k f l : Int) (w : World) : Calls Tryd.prog 13 #[.agg #[.int .i64 k, .int .i64 f, .int .i64 l]] w fun e w' => e = .returned (.int .i64 (chkC k f l)) ∧ Below w.heap.size w w' := by
  have hb0 : Below w.heap.size w (w.alloc (.cells #[.int .i64 k, .int .i64 f, .int .i64 l] 39)) := (Below.refl w.heap.size w).alloc (Nat.le_refl _) _
  obtain ⟨R, hR⟩ : ∃ R, R = chkC k f l := ⟨_, rfl⟩
  rw [← hR]
  rcases Int.lt_or_le k 0 with h1 | h1
  · have HR : Hid (R = 11) := Lib.hid (by rw [hR]; unfold chkC; rw [if_pos (.inl h1)])
    clear hR
    go_enter Tryd.func13, Tryd.ntmps13
    go_wp2
    go_ret
    exact ⟨by rw [HR.out]; rfl, hb0⟩
  rcases Int.lt_or_le 2 k with h2 | h2
  · have HR : Hid (R = 11) := Lib.hid (by rw [hR]; unfold chkC; rw [if_pos (.inr h2)])
    clear hR
    go_enter Tryd.func13, Tryd.ntmps13
    go_wp2
    go_ret
    exact ⟨by rw [HR.out]; rfl, hb0⟩
  rcases Int.lt_or_le f (-25567) with h3 | h3
  · have HR : Hid (R = 15) := Lib.hid (by rw [hR]; unfold chkC; rw [if_neg (by omega), if_pos (inB_no (.inl h3))])
    clear hR
    go_enter Tryd.func13, Tryd.ntmps13
    go_wp2
    go_ret
    exact ⟨by rw [HR.out]; rfl, hb0⟩
  rcases Int.lt_or_le f 84006 with h4 | h4
  rotate_left
  · have HR : Hid (R = 15) := Lib.hid (by rw [hR]; unfold chkC; rw [if_neg (by omega), if_pos (inB_no (.inr (by omega)))])
    clear hR
    go_enter Tryd.func13, Tryd.ntmps13
    go_wp2
    go_ret
    exact ⟨by rw [HR.out]; rfl, hb0⟩
  have hin : inB f = true := inB_yes h3 (by omega)
  have h5 : ¬ 84006 ≤ f := by omega
  rcases Int.lt_or_le l 0 with h6 | h6
  · have HR : Hid (R = 2) := Lib.hid (by rw [hR]; unfold chkC; rw [if_neg (by omega), if_neg (by rw [hin]; simp), if_pos (.inl h6)])
    clear hR
    go_enter Tryd.func13, Tryd.ntmps13
    go_wp2
    go_ret
    exact ⟨by rw [HR.out]; rfl, hb0⟩
  rcases Int.lt_or_le 60 l with h7 | h7
  · have HR : Hid (R = 2) := Lib.hid (by rw [hR]; unfold chkC; rw [if_neg (by omega), if_neg (by rw [hin]; simp), if_pos (.inr h7)])
    clear hR
    go_enter Tryd.func13, Tryd.ntmps13
    go_wp2
    go_ret
    exact ⟨by rw [HR.out]; rfl, hb0⟩
  have HR : Hid (R = 0) := Lib.hid (by rw [hR]; unfold chkC; rw [if_neg (by omega), if_neg (by rw [hin]; simp), if_neg (by omega)])
  clear hR
  go_enter Tryd.func13, Tryd.ntmps13
  go_wp2
  go_ret
  exact ⟨by rw [HR.out]; rfl, hb0⟩

end Go.Proofs.YtfmabjfibjnkoaaDoor
