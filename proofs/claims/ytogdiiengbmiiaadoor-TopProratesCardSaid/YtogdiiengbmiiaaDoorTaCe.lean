/-
  What is proved: texts of other seats, joined for this one: what each theorem says. Conditions: as each says.
-/
import Derived.Test.YtogdiiengbmiiaaDoorRows
import Derived.WalkKit
import Derived.WalkSpells
import Derived.WalkLawsBesides
import Derived.Lib.Hide
namespace Go.Proofs.YtogdiiengbmiiaaDoor.Ce
open Go.RowKit

/-- An amount fits. -/
def fitsB (c : Int) : Bool := decide (-1125899906842624 ≤ c) && decide (c ≤ 1125899906842624)
theorem fitsB_yes {c : Int} (h1 : -1125899906842624 ≤ c) (h2 : c ≤ 1125899906842624) : fitsB c = true := by simp [fitsB, h1, h2]
theorem fitsB_no {c : Int} (h : c < -1125899906842624 ∨ 1125899906842624 < c) : fitsB c = false := by
  simp only [fitsB, Bool.and_eq_false_iff, decide_eq_false_iff_not]; omega
theorem fitsB_iff {c : Int} : fitsB c = true ↔ -1125899906842624 ≤ c ∧ c ≤ 1125899906842624 := by simp [fitsB]

theorem fits_any (c : Int) (w : World) : Calls Tryd.prog 48 #[.int .i64 c] w fun e w' => e = .returned (.bool (fitsB c)) ∧ w = w' := by
  by_cases h1 : -1125899906842624 ≤ c
  · by_cases h2 : c ≤ 1125899906842624
    · rw [fitsB_yes h1 h2]
      go_enter Tryd.func48, Tryd.ntmps48
      go_wp2
      go_ret
      exact ⟨rfl, rfl⟩
    · rw [fitsB_no (by omega)]
      go_enter Tryd.func48, Tryd.ntmps48
      go_wp2
      go_ret
      exact ⟨rfl, rfl⟩
  · rw [fitsB_no (by omega)]
    go_enter Tryd.func48, Tryd.ntmps48
    go_wp2
    go_ret
    exact ⟨rfl, rfl⟩

/-- What 'within' tells: the amount, and the error's number. -/
def inV (c : Int) : Int := if fitsB c = true then c else 0
def inE (c : Int) : Int := if fitsB c = true then 0 else 9

theorem within_any (c : Int) (w : World) : Calls Tryd.prog 49 #[.int .i64 c] w fun e w' => e = .returned (.tuple #[.int .i64 (inV c), .int .i64 (inE c)]) ∧ w = w' := by
  by_cases h : fitsB c = true
  · simp only [inV, inE, h, if_true]
    go_enter Tryd.func49, Tryd.ntmps49
    go_wp2_with (go_at_call 48; refine (fits_any _ _).mono ?_; rintro e w' ⟨rfl, rfl⟩)
    go_ret2
    exact ⟨rfl, rfl⟩
  · simp only [Bool.not_eq_true] at h
    simp only [inV, inE, h]
    go_enter Tryd.func49, Tryd.ntmps49
    go_wp2_with (go_at_call 48; refine (fits_any _ _).mono ?_; rintro e w' ⟨rfl, rfl⟩)
    go_ret2
    exact ⟨rfl, rfl⟩

/-- The sum of two amounts: 0 where there is none; the error's number. -/
def addV (a b : Int) : Int := if fitsB a = true ∧ fitsB b = true then inV (a + b) else 0
def addE (a b : Int) : Int := if fitsB a = true ∧ fitsB b = true then inE (a + b) else 2
theorem addE_bd (a b : Int) : 0 ≤ addE a b ∧ addE a b ≤ 9 := by unfold addE inE; repeat' split; all_goals omega
theorem addV_bd (a b : Int) : -1125899906842624 ≤ addV a b ∧ addV a b ≤ 1125899906842624 := by
  unfold addV inV
  split
  · split
    · rename_i h; rw [fitsB_iff] at h; exact h
    · omega
  · omega

set_option maxHeartbeats 400000 in
theorem add_any (a b : Int) (w : World) : Calls Tryd.prog 30 #[.int .i64 a, .int .i64 b] w fun e w' => e = .returned (.tuple #[.int .i64 (addV a b), .int .i64 (addE a b)]) ∧ w = w' := by
  by_cases ha : fitsB a = true
  · by_cases hb : fitsB b = true
    · obtain ⟨a1, a2⟩ := fitsB_iff.1 ha
      obtain ⟨b1, b2⟩ := fitsB_iff.1 hb
      simp only [addV, addE, ha, hb, and_self, if_true]
      go_enter Tryd.func30, Tryd.ntmps30
      go_wp2_with (first | (go_at_call 48; refine (fits_any _ _).mono ?_; rintro e w' ⟨rfl, rfl⟩) | (go_at_call 49; refine (within_any _ _).mono ?_; rintro e w' ⟨rfl, rfl⟩))
      go_ret2
      exact ⟨rfl, rfl⟩
    · simp only [Bool.not_eq_true] at hb
      rw [show addV a b = 0 by simp [addV, hb], show addE a b = 2 by simp [addE, hb]]
      go_enter Tryd.func30, Tryd.ntmps30
      go_wp2_with (first | (go_at_call 48; refine (fits_any _ _).mono ?_; rintro e w' ⟨rfl, rfl⟩))
      go_ret2
      exact ⟨rfl, rfl⟩
  · simp only [Bool.not_eq_true] at ha
    rw [show addV a b = 0 by simp [addV, ha], show addE a b = 2 by simp [addE, ha]]
    go_enter Tryd.func30, Tryd.ntmps30
    go_wp2_with (first | (go_at_call 48; refine (fits_any _ _).mono ?_; rintro e w' ⟨rfl, rfl⟩))
    go_ret2
    exact ⟨rfl, rfl⟩

/-- The one without the other: 0 where there is none; the error's number. -/
def subV (a b : Int) : Int := if fitsB a = true ∧ fitsB b = true then inV (a - b) else 0
def subE (a b : Int) : Int := if fitsB a = true ∧ fitsB b = true then inE (a - b) else 2
theorem subE_bd (a b : Int) : 0 ≤ subE a b ∧ subE a b ≤ 9 := by unfold subE inE; repeat' split; all_goals omega

theorem inV_yes {c : Int} (h1 : -1125899906842624 ≤ c) (h2 : c ≤ 1125899906842624) : inV c = c ∧ inE c = 0 := by simp [inV, inE, fitsB_yes h1 h2]
theorem inV_no {c : Int} (h : c < -1125899906842624 ∨ 1125899906842624 < c) : inV c = 0 ∧ inE c = 9 := by simp [inV, inE, fitsB_no h]

/-- The lesser, and the greater, of two. -/
def lessV (a b : Int) : Int := if b < a then b else a
def moreV (a b : Int) : Int := if a < b then b else a


open Go Go.RowKit Go.Proofs

/-- The value is a slice of these amounts. -/
def Row (w : World) (v : Value) (zs : List Int) : Prop :=
  ∃ ao cap, v = .slice ao zs.length cap ∧ zs.length ≤ maxLen ∧ (zs = [] ∨ ∃ b off, ao = some ⟨b, off, none⟩ ∧ ∀ i c, zs[i]? = some c → w.cell? ⟨b, off + i, none⟩ = some (.int .i64 c))

/-- The sum so far and what is left to add. -/
def sumVE : Int → List Int → Int × Int
  | acc, [] => (acc, 0)
  | acc, c :: r => if addE acc c = 0 then sumVE (addV acc c) r else (0, addE acc c)

theorem Row.below {w w' : World} {v : Value} {zs : List Int} (h : Row w v zs) (hb : Below w.heap.size w w') : Row w' v zs := by
  obtain ⟨ao, cap, rfl, hl, h⟩ := h
  refine ⟨ao, cap, rfl, hl, ?_⟩
  rcases h with h | ⟨b, off, rfl, hc⟩
  · exact .inl h
  · refine .inr ⟨b, off, rfl, fun i c hi => ?_⟩
    have h1 := hc i c hi
    rw [hb.cell (p := ⟨b, off + i, none⟩) (World.block_lt_of_cell? w ⟨b, off + i, none⟩ h1)]
    exact h1

set_option maxHeartbeats 1000000 in
theorem sum_row (v : Value) (zs : List Int) (w : World) (h : Row w v zs) : Calls Tryd.prog 12 #[v] w fun e w' => e = .returned (.tuple #[.int .i64 (sumVE 0 zs).1, .int .i64 (sumVE 0 zs).2]) ∧ w = w' := by
  obtain ⟨ao, cap, rfl, hl, hrow⟩ := h
  unfold maxLen at hl
  obtain ⟨R, hR⟩ : ∃ R, R = sumVE 0 zs := ⟨_, rfl⟩
  rw [← hR]
  have HR := Lib.hid hR
  clear hR
  obtain ⟨n, hn⟩ : ∃ n, n = zs.length := ⟨_, rfl⟩
  rw [← hn] at hl ⊢
  have HN := Lib.hid hn
  clear hn
  have HROW := Lib.hid hrow
  clear hrow
  go_enter Tryd.func12, Tryd.ntmps12
  go_wp2
  go_loop [4, 11] (fun s i => ∃ k : Nat, ∃ acc : Int, k ≤ n ∧ i = .int .i64 k ∧ s = .int .i64 acc ∧ Hid (sumVE acc (zs.drop k) = R)) (fun _ i => n - (RowKit.intOf i).toNat)
  case atStart => exact ⟨0, 0, Nat.zero_le _, rfl, rfl, Lib.hid HR.out.symm⟩
  case round =>
    obtain ⟨k, acc, hk, rfl, rfl, HZ⟩ := hrel
    by_cases hlt : k < n
    · have hkl : k < zs.length := by rw [← HN.out]; exact hlt
      obtain ⟨c, hc⟩ : ∃ c, zs[k]? = some c := ⟨_, List.getElem?_eq_getElem hkl⟩
      have hdrop : zs.drop k = c :: zs.drop (k + 1) := by
        rw [List.drop_eq_getElem_cons hkl]
        rw [List.getElem?_eq_getElem hkl] at hc
        rw [Option.some.inj hc]
      rcases HROW.out with h0 | ⟨b, off, hao, hcell⟩
      · rw [h0] at hkl; exact absurd hkl (Nat.not_lt_zero _)
      · subst hao
        have hck := hcell k c hc
        have HD := Lib.hid hdrop
        clear hc hdrop hcell hkl
        by_cases he : addE acc c = 0
        · have hb : (addE acc c != 0) = false := by simp [he]
          have HN2 : Hid (sumVE (addV acc c) (zs.drop (k + 1)) = R) := Lib.hid (by rw [← HZ.out, HD.out]; simp [sumVE, he])
          clear he
          go_wp2_with (first | (go_at_call 30; refine (add_any _ _ _).mono ?_; rintro e w' ⟨rfl, rfl⟩))
          go_round
          case rel => exact ⟨k + 1, addV acc c, by omega, by go_num, rfl, HN2⟩
          case measure => simp [RowKit.intOf]; omega
        · have hb : (addE acc c != 0) = true := by simp [he]
          have HN2 : Hid (R = (0, addE acc c)) := Lib.hid (by rw [← HZ.out, HD.out]; simp [sumVE, he])
          clear he
          go_wp2_with (first | (go_at_call 30; refine (add_any _ _ _).mono ?_; rintro e w' ⟨rfl, rfl⟩))
          go_ret2
          obtain rfl := HN2.out
          exact ⟨rfl, rfl⟩
    · have HN2 : Hid (R = (acc, 0)) := Lib.hid (by rw [← HZ.out, List.drop_eq_nil_of_le (by rw [← HN.out]; omega)]; rfl)
      go_wp2
      go_ret2
      obtain rfl := HN2.out
      exact ⟨rfl, rfl⟩

end Go.Proofs.YtogdiiengbmiiaaDoor.Ce
