/-
  What is proved: the document's example of hours comes out as it says ('awake' of the statements returns true). Conditions: none.
-/
import Derived.Test.YtlfflnfodnegnaaSkI
namespace Go.Proofs.Ytlfflnfodnegnaa
open Go Go.RowKit Go.Proofs
set_option linter.unusedVariables false

def exL : Nat → List En
  | 0 => []
  | j + 1 => exL j ++ [(19723 + (j : Int), 540, 0)]
def exF : Nat → En := fun j => (exL 5).getD j (0, 0, 0)
theorem exL_len : ∀ j, (exL j).length = j
  | 0 => rfl
  | j + 1 => by show (exL j ++ _).length = _; rw [List.length_append, exL_len j]; rfl
theorem ex_chk : chk exF 5 480 2280 = 0 := by decide +kernel
theorem ex_sum : sumR exF 5 480 2280 0 30000 = (2280, 420, 0) := by decide +kernel
theorem ex_stt : (stt 480 2280 exF 5 19723).2 = (2280, 420, 0) := by decide +kernel
theorem ex_mons : monsL exF 5 = [19723, 19723, 19723, 19723, 19723] := by decide +kernel
theorem ex_weeks {E : List Int} (h1 : E.Nodup) (h2 : ∀ m, m ∈ E ↔ m ∈ monsL exF 5) : E = [19723] := by
  rw [ex_mons] at h2
  have hm : ∀ m, m ∈ E → m = 19723 := fun m h => by simpa using (h2 m).1 h
  match E, h1, h2, hm with
  | [], _, h2, _ => exact absurd ((h2 19723).2 (by simp)) (by simp)
  | [a], _, _, hm => rw [hm a (by simp)]
  | a :: b :: r, h1, _, hm =>
    have e1 := hm a (by simp)
    have e2 := hm b (by simp)
    rw [e1, e2] at h1
    simp at h1

set_option maxHeartbeats 4000000 in
set_option maxRecDepth 100000 in
theorem awake_any (w : World) : Calls Try.prog 9 #[] w fun e w' => e = .returned (.bool true) ∧ Below w.heap.size w w' := by
  obtain ⟨i0, hi, q0, q1, q2⟩ := info_parts (P := Try.prog) (e := 46) (z := .agg #[.int .i64 0, .int .i64 0, .int .i64 0]) (size := 3) (bytes := 24) (by kernel_rfl)
  go_enter Try.func9, Try.ntmps9
  go_wp2
  go_loopw [2, 1] (fun iv hv wr => ∃ j : Nat, j ≤ 5 ∧ iv = .int .i64 (19723 + (j : Int)) ∧ Hid (wr.ownsRow w.heap.size 46 3 hv j (hrC (exL j))) ∧ Hid (Below w.heap.size w wr)) (fun iv _ _ => (19728 - RowKit.intOf iv).toNat)
  case atStart => exact ⟨0, by omega, rfl, Lib.hid ⟨rfl, .inl ⟨rfl, rfl⟩⟩, Lib.hid (Below.refl _ _)⟩
  case round =>
    obtain ⟨j, hj, rfl, HO, HB⟩ := hrel
    have hz := HB.out.size
    by_cases hlt : j < 5
    · have hlI : (19723 + (j : Int)) < 19728 := by omega
      have HK : Hid (hrC (exL (j + 1)) = hrC (exL j) ++ [.int .i64 (19723 + (j : Int)), .int .i64 540, .int .i64 0]) := Lib.hid (by show hrC (exL j ++ _) = _; rw [hrC_app]; rfl)
      have HO' := HO.out
      have hnw := Lib.hid (news_at wr [.int .i64 (19723 + (j : Int)), .int .i64 540, .int .i64 0] 46)
      clear HO
      go_wp2_with (first | (at_builtin; refine wpList_append_own _ rfl _ _ 22 rfl w.heap.size 46 i0 (.agg #[.int .i64 0, .int .i64 0, .int .i64 0]) 3 24 Try.underlying22 hi q0 q1 q2 rfl (by decide) _ _ _ rfl (HO'.alloc _) ⟨wr.heap.size, 0, none⟩ 1 1 [.int .i64 (19723 + (j : Int)), .int .i64 540, .int .i64 0] rfl rfl hnw.out (fun u hu => by simp at hu; rcases hu with rfl | rfl | rfl <;> rfl) (by unfold maxLen; omega) (by omega) (by simp; omega) ?_; intro v' w3 hown3 hg3 _) | go_in)
      have HBW3 : Below w.heap.size w w3 := (HB.out.alloc hz _).grown hg3 (by simp; omega) (fun k e => (HO'.lt k e).1)
      exact ⟨⟨j + 1, by omega, by go_num, Lib.hid (by rw [HK.out]; exact hown3), Lib.hid HBW3⟩, by simp [RowKit.intOf]; omega⟩
    · obtain rfl : j = 5 := by omega
      obtain ⟨pv, cv, rfl⟩ := own_slice HO.out
      have hE : EntsIn wr pv 5 exF := by
        have := hrs_own (L := exL 5) (by rw [exL_len]; exact HO.out)
        rw [exL_len] at this
        exact this
      have HS := Sum_any exF pv 5 cv 480 2280 0 30000 wr hE
      rw [ex_sum, ex_chk] at HS
      replace HS := Lib.hid HS
      have hE' := Lib.hid hE
      clear hE HO
      go_wp2_with fail
      refine (HS.out).mono ?_
      rintro e w4 ⟨rfl, hb4⟩
      obtain ⟨W5, hW5⟩ : ∃ W5, W5 = w4.alloc (.cells #[.int .i64 2280, .int .i64 420, .int .i64 0] 30) := ⟨_, rfl⟩
      have hx5 : HrBox W5 w4.heap.size (2280, 420, 0) := by rw [hW5]; exact HrBox.new w4 (2280, 420, 0) _
      have hb5 : Below wr.heap.size wr W5 := by rw [hW5]; exact hb4.alloc hb4.size _
      have HW := Lib.hid (Weeks_any exF pv 5 cv 480 2280 W5 (hE'.out.below hb5))
      have hbw := HB.out.trans (hb5.mono hz)
      clear hE' HS hb4 hb5 HB hz
      go_wp2_with fail
      rw [← hW5]
      clear hW5
      refine (HW.out).mono ?_
      rintro e w6 ⟨E, p, c, rfl, h1, -, -, hb6⟩
      obtain ⟨h2, h3, -, h4⟩ := h1 ex_chk
      obtain rfl := ex_weeks h2 h3
      have hx6 := hx5.below hb6
      obtain ⟨⟨x0, x1, x2⟩, -⟩ := hx6
      simp only [List.length_singleton] at *
      rcases h4 with h4 | ⟨b, o, rfl, h4⟩
      · omega
      obtain ⟨y0, y1, y2⟩ := h4 0 (by omega)
      have z : (stt 480 2280 exF 5 ([(19723 : Int)].getD 0 0)).2 = (2280, 420, 0) := ex_stt
      simp only [z, Nat.zero_mul, Nat.add_zero] at y0 y1 y2
      have hbF := hbw.trans (hb6.mono hbw.size)
      clear h1 h2 h3 h4 hx5 hb6 HW hbw
      go_wp2
      go_quiet (fail)
      go_wp2
      go_ret
      exact ⟨rfl, below_drewN hbF _⟩

end Go.Proofs.Ytlfflnfodnegnaa
