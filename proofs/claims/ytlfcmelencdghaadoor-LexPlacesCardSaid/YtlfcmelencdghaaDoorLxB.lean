/-
  What is proved: the contract of looker's closure: the place behind the bytes that are as it is asked for. Conditions: the text lies in the closure's block; it is shorter than 2^62 bytes.
-/
import Derived.Test.YtlfcmelencdghaaDoorLxA
import Derived.Shelf.Abstract
namespace Go.Proofs.YtlfcmelencdghaaDoor
open Go Go.RowKit Go.Proofs
set_option linter.unusedVariables false

theorem below_drewN {B : Nat} {w w' : World} (h : Below B w w') (n : Nat) : Below B w (w'.drewN n) := ⟨h.os, h.tape, h.output, h.size, h.block⟩
theorem size_len (d : ByteArray) : d.data.toList.length = d.size := by rw [Array.length_toList]; rfl
theorem run_drop {p : UInt8 → Bool} {d : ByteArray} {k : Nat} (hk : k < d.size) : runL p (d.data.toList.drop k) = if p d[k] = true then runL p (d.data.toList.drop (k + 1)) + 1 else 0 := by
  rw [List.drop_eq_getElem_cons (by rw [size_len]; exact hk)]; rfl
theorem run_end {p : UInt8 → Bool} {d : ByteArray} {k : Nat} (hk : d.size ≤ k) : runL p (d.data.toList.drop k) = 0 := by
  rw [List.drop_eq_nil_of_le (by rw [size_len]; omega)]; rfl

/-- What a byte is asked. -/
structure Asks (F : FuncId) (p : UInt8 → Bool) : Prop where
  call : ∀ b w, Calls Tryd.prog F #[.int .u8 (b.toNat : Int)] w fun e w' => e = .returned (.bool (p b)) ∧ w = w'
  enters : ∀ args W, (callFunc F args).run Tryd.prog W = .ok (.enter F args) W
theorem asksDigit : Asks 26 isDg := ⟨isDigit_any, enters_of Tryd.func26 (by kernel_rfl) rfl⟩
theorem asksName : Asks 25 isIn := ⟨isNameByte_any, enters_of Tryd.func25 (by kernel_rfl) rfl⟩
theorem asksBlank : Asks 14 isBl := ⟨isBlank_any, enters_of Tryd.func14 (by kernel_rfl) rfl⟩

set_option maxHeartbeats 1000000 in
theorem look_any {F : FuncId} {p : UInt8 → Bool} (hF : Asks F p) (s : ByteArray) (hs : s.size ≤ 4611686018427387904) (k : Nat) (hk : k ≤ s.size) (g : Nat) (w : World) (hc : w.cell? ⟨g, 0, none⟩ = some (.string s)) :
    Calls Tryd.prog 23 #[.int .i64 (k : Int), .func (.func F) #[] #[], .pointer (some ⟨g, 0, none⟩)] w fun e w' => e = .returned (.int .i64 ((k + runL p (s.data.toList.drop k) : Nat) : Int)) ∧ w = w' := by
  have eF := hF.enters
  obtain ⟨R, hR⟩ : ∃ R, R = k + runL p (s.data.toList.drop k) := ⟨_, rfl⟩
  rw [← hR]
  have HR := Lib.hid hR
  clear hR
  go_enter Tryd.func23, Tryd.ntmps23
  go_wp2
  go_loop [0] (fun av => ∃ j : Nat, j ≤ s.size ∧ av = .int .i64 j ∧ Hid (R = j + runL p (s.data.toList.drop j))) (fun av => s.size - (RowKit.intOf av).toNat)
  case atStart => exact ⟨k, hk, rfl, HR⟩
  case round =>
    clear HR
    obtain ⟨j, hj, rfl, HR⟩ := hrel
    by_cases hlt : j < s.size
    · have hrd := Lib.hid (run_drop (p := p) hlt)
      have hCall := Lib.hid (hF.call s[j] w)
      cases hp : p s[j]
      · rw [hp] at hCall
        obtain rfl : R = j := by rw [HR.out, hrd.out, hp]; simp
        clear hp
        go_wp2_with fail
        refine (hCall.out).mono ?_
        rintro e w1 ⟨rfl, rfl⟩
        go_wp2
        go_ret
        exact ⟨rfl, rfl⟩
      · rw [hp] at hCall
        have HR2 : Hid (R = (j + 1) + runL p (s.data.toList.drop (j + 1))) := Lib.hid (by rw [HR.out, hrd.out, hp]; simp; omega)
        clear hp
        go_wp2_with fail
        refine (hCall.out).mono ?_
        rintro e w1 ⟨rfl, rfl⟩
        go_wp2
        go_round
        case rel => exact ⟨j + 1, by omega, by go_num, HR2⟩
        case measure => simp [RowKit.intOf]; omega
    · obtain rfl : R = j := by rw [HR.out, run_end (by omega)]; omega
      go_wp2
      go_ret
      exact ⟨rfl, rfl⟩
end Go.Proofs.YtlfcmelencdghaaDoor
