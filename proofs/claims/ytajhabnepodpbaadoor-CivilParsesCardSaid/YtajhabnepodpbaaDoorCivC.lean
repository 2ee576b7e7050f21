/-
  What is proved: the contract of civil.AddMonths. Conditions: the table of months' lengths reads as its text lays it.
-/
import Derived.Test.YtajhabnepodpbaaDoorCivRef2
import Derived.StillTailTactics
import Derived.Laws.StructEq
namespace Go.Proofs.YtajhabnepodpbaaDoor
open Go Go.RowKit Go.Proofs

/-- How many months lie ahead of a date's month in the calendar. -/
def monN (y m : Int) : Int := (y - 1900) * 12 + m - 1
/-- A date, so many months later. -/
def addM (y m d n : Int) : Int :=
  if n < -monN y m then -25567 else if 3600 - monN y m ≤ n then 84005
  else num (1900 + (monN y m + n) / 12) ((monN y m + n) % 12 + 1) (min d (dim (1900 + (monN y m + n) / 12) ((monN y m + n) % 12 + 1)))
theorem monN_bd {y m : Int} (a : 1900 ≤ y) (b : y ≤ 2199) (c : 1 ≤ m) (d : m ≤ 12) : 0 ≤ monN y m ∧ monN y m < 3600 := by unfold monN; omega
theorem add_ok {y m d n : Int} (h : okB y m d = true) (h1 : ¬ n < -monN y m) (h2 : ¬ 3600 - monN y m ≤ n) : okB (1900 + (monN y m + n) / 12) ((monN y m + n) % 12 + 1) (min d (dim (1900 + (monN y m + n) / 12) ((monN y m + n) % 12 + 1))) = true := by
  obtain ⟨a, b, c, e, f, g⟩ := okB_iff.1 h
  have hb := dim_bd (1900 + (monN y m + n) / 12) ((monN y m + n) % 12 + 1)
  exact okB_iff.2 ⟨by omega, by omega, by omega, by omega, by omega, by omega⟩

set_option maxHeartbeats 2000000 in
theorem add_no (N n : Int) (h : inB N = false) (w : World) : Calls Tryd.prog 23 #[.int .i64 N, .int .i64 n] w fun e w' => e = .returned (.int .i64 N) ∧ Below w.heap.size w w' := by
  have HT := Lib.hid (to_no N h w)
  clear h
  go_enter Tryd.func23, Tryd.ntmps23
  go_wp2_with fail
  refine (HT.out).mono ?_
  rintro e w1 ⟨rfl, hb⟩
  go_wp2
  go_ret
  exact ⟨rfl, hb.alloc hb.size _⟩

theorem min_ite (a b : Int) : min a b = if a ≤ b then a else b := rfl

set_option maxHeartbeats 1000000 in
theorem add_yes (y m d N n : Int) (h : okB y m d = true) (hn : num y m d = N) (n1 : -9223372036854775808 ≤ n) (n2 : n ≤ 9223372036854775807) (w : World) (hL : Len w) : Calls Tryd.prog 23 #[.int .i64 N, .int .i64 n] w fun e w' => e = .returned (.int .i64 (addM y m d n)) ∧ Below w.heap.size w w' := by
  have HT := Lib.hid (to_yes y m d N h hn w hL)
  obtain ⟨y1, y2, m1, m2, d1, d2⟩ := okB_iff.1 h
  obtain ⟨k1, k2⟩ := monN_bd y1 y2 m1 m2
  have hdb := dim_bd y m
  have dd3 : d ≤ 31 := by omega
  have ey : (y == 0) = false := by rw [beq_eq_false_iff_ne]; omega
  obtain ⟨R, hR⟩ : ∃ R, R = addM y m d n := ⟨_, rfl⟩
  rw [← hR]
  have hM : Hid (monN y m = (y - 1900) * 12 + m - 1) := Lib.hid rfl
  by_cases c1 : n < -monN y m
  · obtain rfl : R = -25567 := by rw [hR, addM, if_pos c1]
    have c1' : n < -((y - 1900) * 12 + m - 1) := by rw [← hM.out]; exact c1
    clear h hn hR c1 k1 k2 hM
    go_enter Tryd.func23, Tryd.ntmps23
    go_wp2_with fail
    refine (HT.out).mono ?_
    rintro e w1 ⟨rfl, hb⟩
    go_wp2
    go_ret
    exact ⟨rfl, hb.alloc hb.size _⟩
  · by_cases c2 : 3600 - monN y m ≤ n
    · obtain rfl : R = 84005 := by rw [hR, addM, if_neg c1, if_pos c2]
      have c1' : ¬ n < -((y - 1900) * 12 + m - 1) := by rw [← hM.out]; exact c1
      have c2' : 3600 - ((y - 1900) * 12 + m - 1) ≤ n := by rw [← hM.out]; exact c2
      clear h hn hR c1 c2 k1 k2 hM
      go_enter Tryd.func23, Tryd.ntmps23
      go_wp2_with fail
      refine (HT.out).mono ?_
      rintro e w1 ⟨rfl, hb⟩
      go_wp2
      go_ret
      exact ⟨rfl, hb.alloc hb.size _⟩
    · have hok := add_ok h c1 c2
      rw [addM, if_neg c1, if_neg c2] at hR
      have c1' : ¬ n < -((y - 1900) * 12 + m - 1) := by rw [← hM.out]; exact c1
      have c2' : ¬ 3600 - ((y - 1900) * 12 + m - 1) ≤ n := by rw [← hM.out]; exact c2
      unfold monN at hR hok c1 c2
      obtain ⟨y', hy'⟩ : ∃ y', y' = 1900 + ((y - 1900) * 12 + m - 1 + n) / 12 := ⟨_, rfl⟩
      obtain ⟨m', hm'⟩ : ∃ m', m' = ((y - 1900) * 12 + m - 1 + n) % 12 + 1 := ⟨_, rfl⟩
      rw [← hy', ← hm'] at hR hok
      have b1 : 1900 ≤ y' := by omega
      have b2 : y' ≤ 2199 := by omega
      have b3 : 1 ≤ m' := by omega
      have b4 : m' ≤ 12 := by omega
      have hmd := mdV_in b1 b2 b3 b4
      rw [← hmd] at hR hok
      have HO := Lib.hid (of_yes y' m' (min d (mdV y' m')) hok)
      rw [← hR] at HO
      obtain ⟨d', hd'⟩ : ∃ d', d' = min d (mdV y' m') := ⟨_, rfl⟩
      rw [← hd'] at HO
      have HMIN : Hid ((if mdV y' m' < d then mdV y' m' else d) = d') := Lib.hid (by rw [hd', min_ite]; split <;> split <;> omega)
      have ey' : 1900 + ((y - 1900) * 12 + m - 1 + n) / 12 = y' := hy'.symm
      have em' : ((y - 1900) * 12 + m - 1 + n) % 12 + 1 = m' := hm'.symm
      have EY := Lib.hid ey'
      have EM := Lib.hid em'
      have hmb := mdV_bd y' m'
      clear h hn hR k1 k2 hM hok hmd hd' hy' hm' ey' em'
      go_enter Tryd.func23, Tryd.ntmps23
      go_wp2_with fail
      refine (HT.out).mono ?_
      rintro e w1 ⟨rfl, hb⟩
      go_upto_region 11 with fail
      rw [EY.out, EM.out]
      have hL1 : Len (w1.alloc (.cells #[.int .i64 y', .int .i64 m', .int .i64 d] 23)).drew := (hL.below hb (Nat.le_refl _)).alloc _
      have hB1 : Below w.heap.size w (w1.alloc (.cells #[.int .i64 y', .int .i64 m', .int .i64 d] 23)).drew := (hb.alloc hb.size _).drew
      obtain ⟨c0, c1, c2⟩ : (w1.alloc (.cells #[.int .i64 y', .int .i64 m', .int .i64 d] 23)).drew.cell? ⟨w1.heap.size, 0, none⟩ = some (.int .i64 y') ∧ (w1.alloc (.cells #[.int .i64 y', .int .i64 m', .int .i64 d] 23)).drew.cell? ⟨w1.heap.size, 1, none⟩ = some (.int .i64 m') ∧ (w1.alloc (.cells #[.int .i64 y', .int .i64 m', .int .i64 d] 23)).drew.cell? ⟨w1.heap.size, 2, none⟩ = some (.int .i64 d) := new3 w1 _ _ _ _
      have f2 : (w1.alloc (.cells #[.int .i64 y', .int .i64 m', .int .i64 d] 23)).drew.frozen? ⟨w1.heap.size, 2, none⟩ = false := (newf3 w1 (.int .i64 y') (.int .i64 m') (.int .i64 d) _).2.2
      have hs := hb.size
      refine wp_region_still_tail 9 (by kernel_rfl) (by kernel_rfl) ?_
      change wpStill _ _ (w1.alloc (.cells #[.int .i64 y', .int .i64 m', .int .i64 d] 23)).drew (fun a' => wpList _ _ _ _ a' (w1.alloc (.cells #[.int .i64 y', .int .i64 m', .int .i64 d] 23)).drew) _ _
      generalize w1.heap.size = g at c0 c1 c2 f2 hs ⊢
      generalize (w1.alloc (.cells #[.int .i64 y', .int .i64 m', .int .i64 d] 23)).drew = W at c0 c1 c2 f2 hL1 hB1 ⊢
      simp only [List.take_succ_cons, List.take_zero, List.drop_succ_cons, List.drop_zero]
      still_step
      still_step
      still_step
      still_step
      still_step
      still_step
      still_call (md_q _ _ _ hL1)
      refine wpStill_step (fun K hK => ?_)
      go_simp
      rw [HMIN.out]
      refine hK _ ?_
      clear hK K
      still_step
      refine wpStill_nil ?_
      have hb2 : Below w.heap.size w (W.setCell ⟨g, 2, none⟩ (.int .i64 d')) := hB1.setCell hs _
      have HL2 := Lib.hid (hL.below hb2 (Nat.le_refl _))
      go_wp2_with fail
      refine (HO.out _ HL2.out).mono ?_
      rintro e w3 ⟨rfl, hb3⟩
      go_wp2
      go_ret
      exact ⟨rfl, hb2.trans (hb3.mono hb2.size)⟩

end Go.Proofs.YtajhabnepodpbaaDoor
