/-
  What is proved: the contract of cents.Parse: what any text's amount is, or that there is none, by a plain function on bytes. Conditions: the text is shorter than 2^62 bytes.
-/
import Derived.Test.YthdjpkpkkdnofaaDoorCentsA
import Derived.Test.YthdjpkpkkdnofaaDoorShelf
import Derived.Lib.Hide
import Derived.BigQuiet
namespace Go.Proofs.YthdjpkpkkdnofaaDoor
open Go Go.RowKit Go.Lib Go.Proofs

/-- Digits from a place on, the byte at place pt passed over; nothing, if one is none, or the amount would not fit. -/
def scan (pt : Nat) : Nat → Int → List UInt8 → Option Int
  | _, acc, [] => some acc
  | i, acc, b :: r => if i = pt then scan pt (i + 1) acc r else if b.toNat < 48 ∨ 57 < b.toNat then none else if fitsB (acc * 10 + (b.toNat - 48)) = true then scan pt (i + 1) (acc * 10 + (b.toNat - 48)) r else none

/-- What the digits (without the sign) come to. -/
def parseD (d : List UInt8) : Option Int :=
  if d.length < 4 ∨ d[d.length - 3]? ≠ some 46 ∨ (4 < d.length ∧ d[0]? = some 48) then none else scan (d.length - 3) 0 0 d
def parseO (below : Bool) (d : List UInt8) : Option Int :=
  match parseD d with
  | none => none
  | some c => if below = true then (if c = 0 then none else some (-c)) else some c
def parseVE : Option Int → Int × Int
  | none => (0, 3)
  | some c => (c, 0)
/-- A text's amount, and the error's number. -/
def parseR (l : List UInt8) : Int × Int := parseVE (parseO (hasPrefix l [45]) (trimPrefix l [45]))

theorem size_len (d : ByteArray) : d.data.toList.length = d.size := by rw [Array.length_toList]; rfl
theorem get_len (d : ByteArray) (k : Nat) (h : k < d.size) : d.data.toList[k]? = some d[k] := by
  rw [List.getElem?_eq_getElem (by rw [size_len]; exact h)]; rfl

theorem cutMinus (s : ByteArray) (w : World) : Calls Tryd.prog 41 #[.string s, .string ⟨#[45]⟩] w fun e w' => ∃ d : ByteArray, e = .returned (.tuple #[.string d, .bool (hasPrefix s.data.toList [45])]) ∧ Hid (d.data.toList = trimPrefix s.data.toList [45]) ∧ d.size ≤ s.size ∧ w = w' := by
  refine (Tryd.strings_CutPrefix s ⟨#[45]⟩ w).mono ?_
  rintro e w' ⟨rfl, rfl⟩
  refine ⟨_, rfl, Lib.hid rfl, ?_, rfl⟩
  rw [← size_len, ← size_len]
  show (trimPrefix s.data.toList [45]).length ≤ _
  unfold trimPrefix
  split
  · rw [List.length_drop]; omega
  · omega

theorem vs_short {b : Bool} {d : ByteArray} (h : d.size < 4) : parseVE (parseO b d.data.toList) = (0, 3) := by
  have h0 : parseD d.data.toList = none := by unfold parseD; rw [if_pos (Or.inl (by rw [size_len]; exact h))]
  simp [parseO, h0, parseVE]
theorem vs_point {b : Bool} {d : ByteArray} {p : Nat} (hp : d.size = p + 3) (h : d[p].toNat ≠ 46) : parseVE (parseO b d.data.toList) = (0, 3) := by
  have h0 : parseD d.data.toList = none := by
    unfold parseD
    rw [if_pos]
    right; left
    rw [size_len, hp, show p + 3 - 3 = p by omega, get_len d p (by omega)]
    intro e
    exact h (by rw [Option.some.inj e]; rfl)
  simp [parseO, h0, parseVE]
theorem vs_zero {b : Bool} {d : ByteArray} {p : Nat} (hp : d.size = p + 3) (h1 : 1 < p) (h : d[0].toNat = 48) : parseVE (parseO b d.data.toList) = (0, 3) := by
  have h0 : parseD d.data.toList = none := by
    unfold parseD
    rw [if_pos]
    right; right
    rw [size_len, get_len d 0 (by omega)]
    exact ⟨by omega, congrArg some (UInt8.toNat_inj.1 (by rw [h]; rfl))⟩
  simp [parseO, h0, parseVE]
theorem vs_scan {d : ByteArray} {p : Nat} (hp : d.size = p + 3) (h1 : 1 ≤ p) (h2 : d[p].toNat = 46) (h3 : p ≤ 1 ∨ d[0].toNat ≠ 48) : parseD d.data.toList = scan p 0 0 d.data.toList := by
  unfold parseD
  rw [if_neg, size_len, hp, show p + 3 - 3 = p by omega]
  rw [size_len, hp, show p + 3 - 3 = p by omega, get_len d p (by omega), get_len d 0 (by omega)]
  intro h
  rcases h with h | h | ⟨h, h'⟩
  · omega
  · exact h (congrArg some (UInt8.toNat_inj.1 (by rw [h2]; rfl)))
  · rcases h3 with h3 | h3
    · omega
    · exact h3 (by rw [Option.some.inj h']; rfl)

theorem scan_cons {pt k : Nat} {z : Int} {d : ByteArray} (hk : k < d.size) : scan pt k z (d.data.toList.drop k) = if k = pt then scan pt (k + 1) z (d.data.toList.drop (k + 1)) else if d[k].toNat < 48 ∨ 57 < d[k].toNat then none else if fitsB (z * 10 + (d[k].toNat - 48)) = true then scan pt (k + 1) (z * 10 + (d[k].toNat - 48)) (d.data.toList.drop (k + 1)) else none := by
  rw [List.drop_eq_getElem_cons (by rw [size_len]; exact hk)]
  rfl
theorem scan_end {pt k : Nat} {z : Int} {d : ByteArray} (hk : d.size ≤ k) : scan pt k z (d.data.toList.drop k) = some z := by
  rw [List.drop_eq_nil_of_le (by rw [size_len]; exact hk)]; rfl

set_option maxHeartbeats 2000000 in
theorem parse_any (s : ByteArray) (w : World) (hs : s.size ≤ 4611686018427387904) :
    Calls Tryd.prog 27 #[.string s] w fun e w' => e = .returned (.tuple #[.int .i64 (parseR s.data.toList).1, .int .i64 (parseR s.data.toList).2]) ∧ w = w' := by
  obtain ⟨R, hR⟩ : ∃ R, R = parseR s.data.toList := ⟨_, rfl⟩
  rw [← hR]
  have hcut := cutMinus s w
  unfold parseR at hR
  generalize hasPrefix s.data.toList [45] = below at hR hcut
  have HR := Lib.hid hR
  have HC := Lib.hid hcut
  clear hR hcut
  go_enter Tryd.func27, Tryd.ntmps27
  go_wp2_with fail
  refine (HC.out).mono ?_
  rintro e w' ⟨d, rfl, hd, hsz, rfl⟩
  have HF : Hid (R = parseVE (parseO below d.data.toList)) := Lib.hid (by rw [hd.out]; exact HR.out)
  clear HR HC hd
  by_cases h1 : d.size < 4
  · have h1' : (d.size : Int) - 3 < 1 := by omega
    go_wp2
    go_ret2
    obtain rfl : R = (0, 3) := HF.out.trans (vs_short h1)
    exact ⟨rfl, rfl⟩
  · obtain ⟨p, hp⟩ : ∃ p, d.size = p + 3 := ⟨d.size - 3, by omega⟩
    have hp1 : 1 ≤ p := by omega
    by_cases h2 : ¬ d[p].toNat = 46
    · go_wp2
      go_ret2
      obtain rfl : R = (0, 3) := HF.out.trans (vs_point hp h2)
      exact ⟨rfl, rfl⟩
    replace h2 : d[p].toNat = 46 := Classical.not_not.1 h2
    by_cases h3 : 1 < p ∧ d[0].toNat = 48
    · obtain ⟨h3, h4⟩ := h3
      go_wp2
      go_ret2
      obtain rfl : R = (0, 3) := HF.out.trans (vs_zero hp h3 h4)
      exact ⟨rfl, rfl⟩
    have HS : Hid (R = parseVE (match scan p 0 0 d.data.toList with | none => none | some c => if below = true then (if c = 0 then none else some (-c)) else some c)) := Lib.hid (by
      rw [HF.out]; unfold parseO; rw [vs_scan hp hp1 h2 (by by_cases h : p ≤ 1; exact Or.inl h; exact Or.inr (fun e => h3 ⟨by omega, e⟩))])
    clear HF
    have hb1 : decide ((p : Int) < 1) = false := decide_eq_false (by omega)
    by_cases h5 : 1 < p
    all_goals
      first | (have h4 : ((d[0].toNat : Int) == 48) = false := beq_eq_false_iff_ne.2 (by intro e; exact h3 ⟨h5, by omega⟩)) | skip
      first | (have h6 : decide ((1 : Int) < (p : Int)) = true := decide_eq_true (by omega)) | (have h6 : decide ((1 : Int) < (p : Int)) = false := decide_eq_false (by omega))
      clear h3
      go_wp2
      go_loop [7, 8] (fun c i => ∃ k : Nat, ∃ z : Int, k ≤ d.size ∧ 0 ≤ z ∧ z ≤ 1125899906842624 ∧ i = .int .i64 k ∧ c = .int .i64 z ∧ Hid (scan p k z (d.data.toList.drop k) = scan p 0 0 d.data.toList)) (fun _ i => d.size - (RowKit.intOf i).toNat)
      case atStart => exact ⟨0, 0, Nat.zero_le _, by omega, by omega, rfl, rfl, Lib.hid rfl⟩
      case round =>
        obtain ⟨k, z, hk, hz0, hz1, rfl, rfl, HZ⟩ := hrel
        by_cases hlt : k < p + 3
        · have hkd : k < d.size := by omega
          by_cases hkp : k = p
          · have hb : ((k : Int) == (p : Int)) = true := beq_iff_eq.2 (by omega)
            have HN : Hid (scan p (k + 1) z (d.data.toList.drop (k + 1)) = scan p 0 0 d.data.toList) := Lib.hid (by rw [← HZ.out, scan_cons hkd, if_pos hkp])
            clear hkp
            go_wp2
            go_round
            case rel => exact ⟨k + 1, z, by omega, hz0, hz1, by go_num, rfl, HN⟩
            case measure => simp [RowKit.intOf]; omega
          · have hb : ((k : Int) == (p : Int)) = false := beq_eq_false_iff_ne.2 (by omega)
            by_cases hdig : d[k].toNat < 48 ∨ 57 < d[k].toNat
            · have HN : Hid (R = (0, 3)) := Lib.hid (by rw [HS.out, ← HZ.out, scan_cons hkd, if_neg hkp, if_pos hdig]; rfl)
              by_cases h48 : d[k].toNat < 48
              · go_wp2
                go_ret2
                obtain rfl : R = (0, 3) := HN.out
                exact ⟨rfl, rfl⟩
              · have h57 : 57 < d[k].toNat := by omega
                go_wp2
                go_ret2
                obtain rfl : R = (0, 3) := HN.out
                exact ⟨rfl, rfl⟩
            · have h48 : 48 ≤ d[k].toNat := by omega
              have h57 : d[k].toNat ≤ 57 := by omega
              by_cases hfit : fitsB (z * 10 + ((d[k].toNat : Int) - 48)) = true
              · have HN : Hid (scan p (k + 1) (z * 10 + ((d[k].toNat : Int) - 48)) (d.data.toList.drop (k + 1)) = scan p 0 0 d.data.toList) := Lib.hid (by rw [← HZ.out, scan_cons hkd, if_neg hkp, if_neg hdig, if_pos hfit])
                obtain ⟨f1, f2⟩ := fitsB_iff.1 hfit
                clear hdig
                go_wp2_with (first | (go_at_call 19; refine (fits_any _ _).mono ?_; rintro e w' ⟨rfl, rfl⟩))
                go_round
                case rel => exact ⟨k + 1, z * 10 + ((d[k].toNat : Int) - 48), by omega, by omega, by omega, by go_num, rfl, HN⟩
                case measure => simp [RowKit.intOf]; omega
              · have HN : Hid (R = (0, 3)) := Lib.hid (by rw [HS.out, ← HZ.out, scan_cons hkd, if_neg hkp, if_neg hdig, if_neg hfit]; rfl)
                simp only [Bool.not_eq_true] at hfit
                clear hdig
                go_wp2_with (first | (go_at_call 19; refine (fits_any _ _).mono ?_; rintro e w' ⟨rfl, rfl⟩))
                go_ret2
                obtain rfl : R = (0, 3) := HN.out
                exact ⟨rfl, rfl⟩
        · have HN : Hid (R = parseVE (if below = true then (if z = 0 then none else some (-z)) else some z)) := Lib.hid (by rw [HS.out, ← HZ.out, scan_end (by omega)])
          cases below
          · go_wp2
            go_ret2
            obtain rfl : R = (z, 0) := HN.out
            exact ⟨rfl, rfl⟩
          · by_cases hz : z = 0
            · have hzb : (z == 0) = true := beq_iff_eq.2 hz
              obtain rfl : R = (0, 3) := by rw [HN.out, if_pos rfl, if_pos hz]; rfl
              go_wp2
              go_ret2
              exact ⟨rfl, rfl⟩
            · have hzb : (z == 0) = false := beq_eq_false_iff_ne.2 hz
              obtain rfl : R = (-z, 0) := by rw [HN.out, if_pos rfl, if_neg hz]; rfl
              go_wp2
              go_ret2
              exact ⟨rfl, rfl⟩

end Go.Proofs.YthdjpkpkkdnofaaDoor
