/-
  What is proved: the contracts of cents.Sum and of the document's own Sum on any slice of amounts: both tell the sum one by one, or the first error. Conditions: the slice's elements are known cells.
-/
import Derived.Test.YtaeldoipflcknaaCeA
import Derived.Lib.Hide
namespace Go.Proofs.Ytaeldoipflcknaa.Ce
open Go Go.RowKit Go.Proofs

/-- The value is a slice of these amounts. -/
def Row (w : World) (v : Value) (zs : List Int) : Prop :=
  ∃ ao cap, v = .slice ao zs.length cap ∧ zs.length ≤ maxLen ∧ (zs = [] ∨ ∃ b off, ao = some ⟨b, off, none⟩ ∧ ∀ i c, zs[i]? = some c → w.cell? ⟨b, off + i, none⟩ = some (.int .i64 c))

/-- The sum so far and what is left to add. -/
def sumVE : Int → List Int → Int × Int
  | acc, [] => (acc, 0)
  | acc, c :: r => if addE acc c = 0 then sumVE (addV acc c) r else (0, addE acc c)

theorem Row.below {w w' : World} {v : Value} {zs : List Int} (h : Row w v zs) (hb : Below w.heap.size w w') : Row w' v zs := by
  obtain ⟨ao, cap, rfl, hl, h⟩ := h
  refine ⟨ao, cap, rfl, hl, ?_⟩
  rcases h with h | ⟨b, off, rfl, hc⟩
  · exact .inl h
  · refine .inr ⟨b, off, rfl, fun i c hi => ?_⟩
    have h1 := hc i c hi
    rw [hb.cell (p := ⟨b, off + i, none⟩) (World.block_lt_of_cell? w ⟨b, off + i, none⟩ h1)]
    exact h1

set_option maxHeartbeats 1000000 in
theorem sum_row (v : Value) (zs : List Int) (w : World) (h : Row w v zs) : Calls Try.prog 21 #[v] w fun e w' => e = .returned (.tuple #[.int .i64 (sumVE 0 zs).1, .int .i64 (sumVE 0 zs).2]) ∧ w = w' := by
  obtain ⟨ao, cap, rfl, hl, hrow⟩ := h
  unfold maxLen at hl
  obtain ⟨R, hR⟩ : ∃ R, R = sumVE 0 zs := ⟨_, rfl⟩
  rw [← hR]
  have HR := Lib.hid hR
  clear hR
  obtain ⟨n, hn⟩ : ∃ n, n = zs.length := ⟨_, rfl⟩
  rw [← hn] at hl ⊢
  have HN := Lib.hid hn
  clear hn
  have HROW := Lib.hid hrow
  clear hrow
  go_enter Try.func21, Try.ntmps21
  go_wp2
  go_loop [4, 11] (fun s i => ∃ k : Nat, ∃ acc : Int, k ≤ n ∧ i = .int .i64 k ∧ s = .int .i64 acc ∧ Hid (sumVE acc (zs.drop k) = R)) (fun _ i => n - (RowKit.intOf i).toNat)
  case atStart => exact ⟨0, 0, Nat.zero_le _, rfl, rfl, Lib.hid HR.out.symm⟩
  case round =>
    obtain ⟨k, acc, hk, rfl, rfl, HZ⟩ := hrel
    by_cases hlt : k < n
    · have hkl : k < zs.length := by rw [← HN.out]; exact hlt
      obtain ⟨c, hc⟩ : ∃ c, zs[k]? = some c := ⟨_, List.getElem?_eq_getElem hkl⟩
      have hdrop : zs.drop k = c :: zs.drop (k + 1) := by
        rw [List.drop_eq_getElem_cons hkl]
        rw [List.getElem?_eq_getElem hkl] at hc
        rw [Option.some.inj hc]
      rcases HROW.out with h0 | ⟨b, off, hao, hcell⟩
      · rw [h0] at hkl; exact absurd hkl (Nat.not_lt_zero _)
      · subst hao
        have hck := hcell k c hc
        have HD := Lib.hid hdrop
        clear hc hdrop hcell hkl
        by_cases he : addE acc c = 0
        · have hb : (addE acc c != 0) = false := by simp [he]
          have HN2 : Hid (sumVE (addV acc c) (zs.drop (k + 1)) = R) := Lib.hid (by rw [← HZ.out, HD.out]; simp [sumVE, he])
          clear he
          go_wp2_with (first | (go_at_call 34; refine (add_any _ _ _).mono ?_; rintro e w' ⟨rfl, rfl⟩))
          go_round
          case rel => exact ⟨k + 1, addV acc c, by omega, by go_num, rfl, HN2⟩
          case measure => simp [RowKit.intOf]; omega
        · have hb : (addE acc c != 0) = true := by simp [he]
          have HN2 : Hid (R = (0, addE acc c)) := Lib.hid (by rw [← HZ.out, HD.out]; simp [sumVE, he])
          clear he
          go_wp2_with (first | (go_at_call 34; refine (add_any _ _ _).mono ?_; rintro e w' ⟨rfl, rfl⟩))
          go_ret2
          obtain rfl := HN2.out
          exact ⟨rfl, rfl⟩
    · have HN2 : Hid (R = (acc, 0)) := Lib.hid (by rw [← HZ.out, List.drop_eq_nil_of_le (by rw [← HN.out]; omega)]; rfl)
      go_wp2
      go_ret2
      obtain rfl := HN2.out
      exact ⟨rfl, rfl⟩

end Go.Proofs.Ytaeldoipflcknaa.Ce
