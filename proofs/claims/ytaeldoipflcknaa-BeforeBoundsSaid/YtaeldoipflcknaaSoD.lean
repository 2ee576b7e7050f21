/-
  What is proved: the contracts of word.IsName and of the document's Word. Conditions: texts are shorter than 2^62 bytes.
-/
import Derived.Test.YtaeldoipflcknaaSoA
import Derived.Deep.Cut
import Derived.LoopTactic
import Derived.IntWalk
namespace Go.Proofs.Ytaeldoipflcknaa
open Go Go.RowKit Go.Lib Go.Proofs
set_option linter.unusedVariables false

theorem retb {a b : Bool} (h : a = b) : Ending.returned (.bool a) = .returned (.bool b) := by rw [h]
theorem size_list (s : ByteArray) : s.data.toList.length = s.size := by simp
theorem all_take (s : ByteArray) (k : Nat) (h : k < s.size) (ha : (s.data.toList.take k).all okN = true) : (s.data.toList.take (k + 1)).all okN = okN s[k] := by
  rw [List.take_succ_eq_append_getElem (by simpa using h), List.all_append, ha, Bool.true_and]
  simp
  rfl
theorem all_not (s : ByteArray) (k : Nat) (h : k < s.size) (hb : okN s[k] = false) : s.data.toList.all okN = false := by
  rw [List.all_eq_false]
  exact ⟨s[k], by
    rw [show s[k] = s.data.toList[k]'(by simpa using h) from rfl]
    exact List.getElem_mem _, by rw [hb]; decide⟩

set_option maxHeartbeats 1000000 in
theorem isName_any (s : ByteArray) (hs : s.size ≤ 4611686018427387904) (w : World) : Calls Try.prog 35 #[.string s] w fun e w' => e = .returned (.bool (nameL s.data.toList)) ∧ w = w' := by
  have hsz := size_list s
  have hl : s.toList = s.data.toList := ByteArray.toList_eq s
  by_cases h0 : s.data.toList = []
  · have e1 : s.toList = [] := by rw [hl, h0]
    rw [show nameL s.data.toList = false by rw [h0]; rfl]
    clear hl h0 hsz
    go_enter Try.func35, Try.ntmps35
    go_wp2
    go_ret
    exact ⟨rfl, rfl⟩
  · have hp : 0 < s.data.toList.length := List.length_pos_iff.2 h0
    have e1 : ¬ s.toList = [] := by rw [hl]; exact h0
    have e2 : s.toList.isEmpty = false := by rw [hl]; simpa using h0
    by_cases h1 : s.size ≤ 32
    · have e3 : (s.size : Int) ≤ 32 := by omega
      by_cases h2 : s.data.toList = [45]
      · have e4 : (s.toList == [45]) = true := by rw [hl, h2]; rfl
        rw [show nameL s.data.toList = false by rw [h2]; rfl]
        clear hl h0 hsz h2 hp
        go_enter Try.func35, Try.ntmps35
        go_wp2
        go_ret
        exact ⟨rfl, rfl⟩
      · have e4 : (s.toList == [45]) = false := by rw [hl]; simpa using h2
        have HN : Hid (nameL s.data.toList = s.data.toList.all okN) := Lib.hid (by
          unfold nameL
          rw [decide_eq_true (by omega), decide_eq_true (by omega), decide_eq_true h2]
          rfl)
        clear hl h0 h2 hp hsz
        go_enter Try.func35, Try.ntmps35
        go_wp2
        clear e4 e1 e2
        go_loop [3] (fun i => ∃ k : Nat, k ≤ s.size ∧ i = .int .i64 k ∧ Hid ((s.data.toList.take k).all okN = true)) (fun i => s.size - (RowKit.intOf i).toNat)
        case atStart => exact ⟨0, Nat.zero_le _, rfl, Lib.hid (by simp)⟩
        case round =>
          obtain ⟨k, hk, rfl, HA⟩ := hrel
          by_cases hlt : k < s.size
          · have HS := Lib.hid (all_take s k hlt HA.out)
            have HF := Lib.hid (all_not s k hlt)
            have HB := Lib.hid (fun W => nb_any s[k] W)
            generalize hb : okN s[k] = b at HS HF HB
            cases b
            · go_wp2_with fail
              refine (HB.out _).mono ?_
              rintro e w1 ⟨rfl, rfl⟩
              go_wp2
              go_ret
              exact ⟨retb (by rw [HN.out, HF.out (by first | rfl | trivial)]), rfl⟩
            · go_wp2_with fail
              refine (HB.out _).mono ?_
              rintro e w1 ⟨rfl, rfl⟩
              go_wp2
              go_round
              case rel => exact ⟨k + 1, by omega, by go_num, HS⟩
              case measure => simp [RowKit.intOf]; omega
          · obtain rfl : k = s.size := by omega
            go_wp2
            go_ret
            exact ⟨retb (by rw [HN.out, ← HA.out, List.take_of_length_le (by simp)]), rfl⟩
    · have e3 : ¬ (s.size : Int) ≤ 32 := by omega
      rw [show nameL s.data.toList = false by
        unfold nameL
        rw [decide_eq_false (p := s.data.toList.length < 33) (by omega), Bool.and_false, Bool.false_and, Bool.false_and]]
      clear hl h0 hp hsz
      go_enter Try.func35, Try.ntmps35
      go_wp2
      go_ret
      exact ⟨rfl, rfl⟩

end Go.Proofs.Ytaeldoipflcknaa
