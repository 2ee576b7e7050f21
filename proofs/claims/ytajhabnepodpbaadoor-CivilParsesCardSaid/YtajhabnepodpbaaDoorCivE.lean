/-
  What is proved: the contracts of civil.isDate, civil.read and civil.Parse. Conditions: the table of months' lengths reads as its text lays it.
-/
import Derived.Test.YtajhabnepodpbaaDoorCivAwake
namespace Go.Proofs.YtajhabnepodpbaaDoor
open Go Go.RowKit Go.Proofs

/-- A byte is a digit. -/
def isDg (b : UInt8) : Bool := decide (48 ≤ b.toNat) && decide (b.toNat ≤ 57)
/-- A byte fits its place in a date's text. -/
def fitB (k : Nat) (b : UInt8) : Bool := if k = 4 ∨ k = 7 then decide (b.toNat = 45) else isDg b
/-- The bytes from place k on fit. -/
def fitsFrom (k : Nat) : List UInt8 → Bool
  | [] => true
  | b :: r => fitB k b && fitsFrom (k + 1) r
def isDateB (l : List UInt8) : Bool := decide (l.length = 10) && fitsFrom 0 l
/-- The number of some digits. -/
def readN (acc : Nat) (l : List UInt8) : Nat := l.foldl (fun a b => 10 * a + (b.toNat - 48)) acc

theorem drop_at (s : ByteArray) (k : Nat) (h : k < s.size) : s.data.toList.drop k = s[k] :: s.data.toList.drop (k + 1) := by
  rw [List.drop_eq_getElem_cons (by rw [Array.length_toList]; exact h)]; rfl
theorem drop_end (s : ByteArray) (k : Nat) (h : s.size ≤ k) : s.data.toList.drop k = [] := List.drop_eq_nil_of_le (by rw [Array.length_toList]; exact h)

theorem drew_any (w : World) (n : Nat) : ∃ m, w.drewN n = w.drewN m := ⟨n, rfl⟩
theorem drew_two (w : World) (n k : Nat) : ∃ m, (w.drewN n).drewN k = w.drewN m := ⟨n + k, World.drewN_drewN w n k⟩
theorem fit_dash (k : Nat) (b : UInt8) (h : k = 4 ∨ k = 7) : fitB k b = decide (b.toNat = 45) := by unfold fitB; rw [if_pos h]
theorem fit_dig (k : Nat) (b : UInt8) (h : ¬ (k = 4 ∨ k = 7)) : fitB k b = isDg b := by unfold fitB; rw [if_neg h]
theorem isDg_yes {b : UInt8} (h1 : 48 ≤ b.toNat) (h2 : b.toNat ≤ 57) : isDg b = true := by simp [isDg, h1, h2]
theorem isDg_lo {b : UInt8} (h1 : ¬ 48 ≤ b.toNat) : isDg b = false := by simp [isDg]; omega
theorem isDg_hi {b : UInt8} (h1 : ¬ b.toNat ≤ 57) : isDg b = false := by simp [isDg]; omega

set_option maxHeartbeats 4000000 in
set_option maxRecDepth 100000 in
theorem isDate_ten (s : ByteArray) (w : World) (hs : s.size = 10) : Calls Tryd.prog 34 #[.string s] w fun e w' => e = .returned (.bool (fitsFrom 0 s.data.toList)) ∧ ∃ n, w' = w.drewN n := by
  obtain ⟨R, hR⟩ : ∃ R, R = fitsFrom 0 s.data.toList := ⟨_, rfl⟩
  rw [← hR]
  have HR := Lib.hid hR
  clear hR
  go_enter Tryd.func34, Tryd.ntmps34
  go_wp2
  go_loopw [3] (fun iv wr => ∃ k : Nat, k ≤ 10 ∧ iv = .int .i64 k ∧ Hid (fitsFrom k (s.data.toList.drop k) = R) ∧ ∃ n, wr = w.drewN n) (fun iv _ => 10 - (RowKit.intOf iv).toNat)
  case atStart => exact ⟨0, by omega, rfl, Lib.hid HR.out.symm, 0, rfl⟩
  case round =>
    obtain ⟨k, hk, rfl, HK, n, rfl⟩ := hrel
    by_cases hlt : k < 10
    · have hks : k < s.size := by omega
      obtain ⟨b, hb⟩ : ∃ b, s[k]'hks = b := ⟨_, rfl⟩
      have HN : Hid (R = (fitB k b && fitsFrom (k + 1) (s.data.toList.drop (k + 1)))) := Lib.hid (by rw [← HK.out, drop_at s k hks, hb]; rfl)
      have hbs := b.toNat_lt
      have hki : (k : Int) < 10 := by omega
      clear HK
      by_cases hpl : k = 4 ∨ k = 7
      · have HF := Lib.hid (fit_dash k b hpl)
        have hpk : (ByteArray.mk #[48, 48, 48, 48, 45, 48, 48, 45, 48, 48])[k]'(by show k < 10; omega) = 45 := by rcases hpl with rfl | rfl <;> rfl
        clear hpl
        by_cases h45 : b.toNat = 45
        · have HN2 : Hid (fitsFrom (k + 1) (s.data.toList.drop (k + 1)) = R) := Lib.hid (by rw [HN.out, HF.out, decide_eq_true h45]; rfl)
          have e45 : ((b.toNat : Int) != 45) = false := by simp [h45]
          have e48 : decide ((48 : Int) ≤ (b.toNat : Int)) = false := decide_eq_false (by omega)
          clear HN HF h45
          go_wp2
          go_quiet (fail)
          go_wp2
          go_roundw
          case rel => exact ⟨k + 1, by omega, by go_num, HN2, _, rfl⟩
          case measure => simp [RowKit.intOf]; omega
        · obtain rfl : R = false := by rw [HN.out, HF.out, decide_eq_false h45]; rfl
          have e45 : ((b.toNat : Int) != 45) = true := by simp; omega
          clear HN HF h45
          by_cases hlo : 48 ≤ b.toNat
          · have e48 : decide ((48 : Int) ≤ (b.toNat : Int)) = true := decide_eq_true (by omega)
            by_cases hhi : b.toNat ≤ 57
            · have e57 : decide ((b.toNat : Int) ≤ 57) = true := decide_eq_true (by omega)
              go_wp2
              go_quiet (fail)
              go_wp2
              go_ret
              first | exact ⟨rfl, drew_any _ _⟩ | exact ⟨rfl, drew_two _ _ _⟩
            · have e57 : decide ((b.toNat : Int) ≤ 57) = false := decide_eq_false (by omega)
              go_wp2
              go_quiet (fail)
              go_wp2
              go_ret
              first | exact ⟨rfl, drew_any _ _⟩ | exact ⟨rfl, drew_two _ _ _⟩
          · have e48 : decide ((48 : Int) ≤ (b.toNat : Int)) = false := decide_eq_false (by omega)
            go_wp2
            go_quiet (fail)
            go_wp2
            go_ret
            first | exact ⟨rfl, drew_any _ _⟩ | exact ⟨rfl, drew_two _ _ _⟩
      · have HF := Lib.hid (fit_dig k b hpl)
        have hpl2 : k = 0 ∨ k = 1 ∨ k = 2 ∨ k = 3 ∨ k = 5 ∨ k = 6 ∨ k = 8 ∨ k = 9 := by omega
        have hpk : (ByteArray.mk #[48, 48, 48, 48, 45, 48, 48, 45, 48, 48])[k]'(by show k < 10; omega) = 48 := by rcases hpl2 with rfl | rfl | rfl | rfl | rfl | rfl | rfl | rfl <;> rfl
        clear hpl hpl2
        by_cases hlo : 48 ≤ b.toNat
        · have e48 : decide ((48 : Int) ≤ (b.toNat : Int)) = true := decide_eq_true (by omega)
          by_cases hhi : b.toNat ≤ 57
          · have e57 : decide ((b.toNat : Int) ≤ 57) = true := decide_eq_true (by omega)
            have HN2 : Hid (fitsFrom (k + 1) (s.data.toList.drop (k + 1)) = R) := Lib.hid (by rw [HN.out, HF.out, isDg_yes hlo hhi]; rfl)
            clear HN HF
            go_wp2
            go_quiet (fail)
            go_wp2
            go_roundw
            case rel => exact ⟨k + 1, by omega, by go_num, HN2, _, rfl⟩
            case measure => simp [RowKit.intOf]; omega
          · have e57 : decide ((b.toNat : Int) ≤ 57) = false := decide_eq_false (by omega)
            obtain rfl : R = false := by rw [HN.out, HF.out, isDg_hi hhi]; rfl
            clear HN HF
            go_wp2
            go_quiet (fail)
            go_wp2
            go_ret
            first | exact ⟨rfl, drew_any _ _⟩ | exact ⟨rfl, drew_two _ _ _⟩
        · have e48 : decide ((48 : Int) ≤ (b.toNat : Int)) = false := decide_eq_false (by omega)
          obtain rfl : R = false := by rw [HN.out, HF.out, isDg_lo hlo]; rfl
          clear HN HF
          go_wp2
          go_quiet (fail)
          go_wp2
          go_ret
          first | exact ⟨rfl, drew_any _ _⟩ | exact ⟨rfl, drew_two _ _ _⟩
    · obtain rfl : R = true := by rw [← HK.out, drop_end s k (by omega)]; rfl
      go_wp2
      go_ret
      first | exact ⟨rfl, drew_any _ _⟩ | exact ⟨rfl, drew_two _ _ _⟩

theorem isDate_any (s : ByteArray) (w : World) : Calls Tryd.prog 34 #[.string s] w fun e w' => e = .returned (.bool (isDateB s.data.toList)) ∧ ∃ n, w' = w.drewN n := by
  by_cases h : s.size = 10
  · have := isDate_ten s w h
    rwa [show isDateB s.data.toList = fitsFrom 0 s.data.toList by unfold isDateB; rw [show s.data.toList.length = 10 by rw [Array.length_toList]; exact h]; rfl]
  · rw [show isDateB s.data.toList = false by unfold isDateB; rw [decide_eq_false (by rw [Array.length_toList]; exact h)]; rfl]
    have h2 : ((s.size : Int) != 10) = true := by simp; omega
    go_enter Tryd.func34, Tryd.ntmps34
    go_wp2
    go_ret
    exact ⟨rfl, 0, rfl⟩

theorem readN_le (l : List UInt8) (acc : Nat) (h : ∀ b ∈ l, isDg b = true) : readN acc l ≤ 10 ^ l.length * (acc + 1) - 1 := by
  induction l generalizing acc with
  | nil => simp [readN]
  | cons b r ih =>
    have hb := h b (by simp)
    simp only [isDg, Bool.and_eq_true, decide_eq_true_eq] at hb
    have := ih (10 * acc + (b.toNat - 48)) (fun c hc => h c (by simp [hc]))
    show readN (10 * acc + (b.toNat - 48)) r ≤ _
    refine Nat.le_trans this ?_
    have e : 10 ^ (b :: r).length * (acc + 1) = 10 ^ r.length * (10 * (acc + 1)) := by rw [List.length_cons, Nat.pow_succ, Nat.mul_assoc]
    rw [e]
    exact Nat.sub_le_sub_right (Nat.mul_le_mul_left _ (by omega)) 1

set_option maxHeartbeats 1000000 in
theorem read_any (s : ByteArray) (w : World) (hs : s.size ≤ 4) (hd : ∀ b ∈ s.data.toList, isDg b = true) : Calls Tryd.prog 35 #[.string s] w fun e w' => e = .returned (.int .i64 (readN 0 s.data.toList : Nat)) ∧ w' = w := by
  obtain ⟨R, hR⟩ : ∃ R, R = readN 0 s.data.toList := ⟨_, rfl⟩
  rw [← hR]
  have HR := Lib.hid hR
  have HD := Lib.hid hd
  clear hR hd
  go_enter Tryd.func35, Tryd.ntmps35
  go_wp2
  go_loop [3, 4] (fun nv iv => ∃ k x : Nat, k ≤ s.size ∧ x < 10 ^ k ∧ iv = .int .i64 k ∧ nv = .int .i64 x ∧ Hid (readN x (s.data.toList.drop k) = R)) (fun _ iv => s.size - (RowKit.intOf iv).toNat)
  case atStart => exact ⟨0, 0, by omega, by simp, rfl, rfl, Lib.hid HR.out.symm⟩
  case round =>
    obtain ⟨k, x, hk, hx, rfl, rfl, HK⟩ := hrel
    by_cases hlt : k < s.size
    · obtain ⟨b, hb⟩ : ∃ b, s[k]'hlt = b := ⟨_, rfl⟩
      have hdb : isDg b = true := HD.out b (by rw [← hb]; exact List.getElem_mem (l := s.data.toList) (n := k) (by rw [Array.length_toList]; exact hlt))
      simp only [isDg, Bool.and_eq_true, decide_eq_true_eq] at hdb
      obtain ⟨b1, b2⟩ := hdb
      have HN : Hid (readN (10 * x + (b.toNat - 48)) (s.data.toList.drop (k + 1)) = R) := Lib.hid (by rw [← HK.out, drop_at s k hlt, hb]; rfl)
      have hx2 : 10 * x + (b.toNat - 48) < 10 ^ (k + 1) := by rw [Nat.pow_succ]; omega
      have hx3 : x < 1000 := Nat.lt_of_lt_of_le hx (by have : k ≤ 3 := by omega
                                                       calc 10 ^ k ≤ 10 ^ 3 := Nat.pow_le_pow_right (by omega) this
                                                         _ = 1000 := rfl)
      obtain ⟨x2, hx4⟩ : ∃ x2, x2 = 10 * x + (b.toNat - 48) := ⟨_, rfl⟩
      rw [← hx4] at HN hx2
      have e1 : (x : Int) * 10 + ((b.toNat : Int) - 48) = (x2 : Int) := by omega
      have hlk := hx
      clear HK hx hx4 hlk
      go_wp2
      go_round
      case rel => exact ⟨k + 1, x2, by omega, hx2, by go_num, rfl, HN⟩
      case measure => simp [RowKit.intOf]; omega
    · obtain rfl : x = R := by rw [← HK.out, drop_end s k (by omega)]; rfl
      go_wp2
      go_ret
      exact ⟨rfl, rfl⟩

end Go.Proofs.YtajhabnepodpbaaDoor
