/-
  What is proved: the walk of the statement RateTimes: the call returns true. Conditions: the table of powers of ten reads as the library lays it.
-/
import Derived.Test.YthdjpkpkkdnofaaDoorRateTell
import Derived.Test.YthdjpkpkkdnofaaDoorPartMath
namespace Go.Proofs.YthdjpkpkkdnofaaDoor
open Go Go.RowKit Go.Lib Go.Proofs
set_option linter.unusedVariables false

theorem rright_any (c : Int) (w : World) : Calls Tryd.prog 38 #[.int .i64 c] w fun e w' => e = .returned (.bool (rightB c)) ∧ w = w' := by
  by_cases h1 : -1000000000 ≤ c
  · by_cases h2 : c ≤ 1000000000
    · rw [rightB_yes h1 h2]
      go_enter Tryd.func38, Tryd.ntmps38
      go_wp2
      go_ret
      exact ⟨rfl, rfl⟩
    · rw [rightB_no (by omega)]
      go_enter Tryd.func38, Tryd.ntmps38
      go_wp2
      go_ret
      exact ⟨rfl, rfl⟩
  · rw [rightB_no (by omega)]
    go_enter Tryd.func38, Tryd.ntmps38
    go_wp2
    go_ret
    exact ⟨rfl, rfl⟩

theorem right_neg (a : Int) (h : rightB a = true) : rightB (-a) = true := by
  rw [rightB_iff] at h ⊢; omega
theorem times_comm (a b : Int) : timesVE b a = timesVE a b := by
  unfold timesVE; rw [port_comm]
  have h : (rightB b = true ∧ rightB a = true) = (rightB a = true ∧ rightB b = true) := propext And.comm
  simp only [h]
theorem times_one (a : Int) (h : rightB a = true) : timesVE a 1000000 = (a, 0) := by
  unfold timesVE
  rw [if_pos ⟨h, by decide⟩]
  have := port_one a 1000000 1 1000000000 (by omega) (by rw [rightB_iff] at h; omega)
  rw [show ((1000000 : Nat) : Int) = 1000000 from rfl] at this
  rw [this]
theorem times_neg (a b : Int) (ha : rightB a = true) (hb : rightB b = true) : (timesVE (-a) b).1 = -(timesVE a b).1 ∧ (timesVE (-a) b).2 = (timesVE a b).2 := by
  unfold timesVE
  rw [if_pos ⟨right_neg a ha, hb⟩, if_pos ⟨ha, hb⟩, port_neg a b 1000000 1 1000000000 (by omega) (by omega)]
  cases portO a b 1000000 1 1000000000 <;> simp
theorem times_bd (a b : Int) : -1000000000 ≤ (timesVE a b).1 ∧ (timesVE a b).1 ≤ 1000000000 := by
  unfold timesVE
  split
  · cases h : portO a b 1000000 1 1000000000 with
    | none => simp
    | some p =>
      simp only
      unfold portO at h
      split at h
      · have e := Option.some.inj h
        rename_i hle
        split at e <;> omega
      · cases h
  · simp

set_option maxHeartbeats 1000000 in
set_option maxRecDepth 100000 in
theorem walkRateTimes (a b : Int) (w : World) (w0 : (Lit.int .i64 a).wf = true) (w1 : (Lit.int .i64 b).wf = true) (htab : TabIs Tryd.prog w "internal/strconv.uint64pow10" .u64 pow10Tab) :
    Calls Tryd.prog 14 #[.int .i64 a, .int .i64 b] w fun e w' => e = .returned (.bool true) ∧ Below w.heap.size w w' := by
  clear w0 w1
  have HW := Lib.hid (awake2 w htab)
  by_cases hr : rightB a = true ∧ rightB b = true
  · obtain ⟨ha, hb⟩ := hr
    obtain ⟨a1, a2⟩ := rightB_iff.1 ha
    obtain ⟨x, e, hx⟩ : ∃ x e, timesVE a b = (x, e) := ⟨_, _, rfl⟩
    have bd := times_bd a b
    rw [hx] at bd
    have t1 := fun W => times_any a b W
    have t2 := fun W => times_any b a W
    have t3 := fun W => times_any a 1000000 W
    have t4 := fun W => times_any (-a) b W
    obtain ⟨n1, n2⟩ := times_neg a b ha hb
    simp only [times_one a ha] at t3
    simp only [n1, n2, hx] at t4
    simp only [times_comm a b, hx] at t2
    simp only [hx] at t1
    have H1 := Lib.hid t1
    have H2 := Lib.hid t2
    have H3 := Lib.hid t3
    have H4 := Lib.hid t4
    have b1 := bd.1
    have b2 := bd.2
    clear t1 t2 t3 t4 n1 n2 hx bd
    go_enter Tryd.func14, Tryd.ntmps14
    go_wp2_with fail
    refine (HW.out).mono ?_
    rintro e' wa ⟨rfl, hba⟩
    go_wp2_with fail
    refine (rright_any _ _).mono ?_
    rintro e' w' ⟨rfl, rfl⟩
    go_wp2_with fail
    refine (rright_any _ _).mono ?_
    rintro e' w' ⟨rfl, rfl⟩
    go_wp2_with fail
    refine (H1.out _).mono ?_
    rintro e' wb ⟨rfl, hbb⟩
    have k1 := hba.trans (hbb.mono hba.size)
    go_wp2_with fail
    refine (H2.out _).mono ?_
    rintro e' wc ⟨rfl, hbc⟩
    have k2 := k1.trans (hbc.mono k1.size)
    go_wp2_with fail
    refine (H3.out _).mono ?_
    rintro e' wd ⟨rfl, hbd⟩
    have k3 := k2.trans (hbd.mono k2.size)
    go_wp2_with fail
    refine (H4.out _).mono ?_
    rintro e' we ⟨rfl, hbe⟩
    have k4 := k3.trans (hbe.mono k3.size)
    go_wp2
    go_ret
    exact ⟨rfl, k4⟩
  · have ht : timesVE a b = (0, 2) := by unfold timesVE; rw [if_neg hr]
    have t1 := fun W => times_any a b W
    simp only [ht] at t1
    have H1 := Lib.hid t1
    clear t1 ht
    by_cases ha : rightB a = true
    · have hb : rightB b = false := by
        cases h : rightB b with
        | false => rfl
        | true => exact absurd ⟨ha, h⟩ hr
      clear hr
      go_enter Tryd.func14, Tryd.ntmps14
      go_wp2_with fail
      refine (HW.out).mono ?_
      rintro e' wa ⟨rfl, hba⟩
      go_wp2_with fail
      refine (rright_any _ _).mono ?_
      rintro e' w' ⟨rfl, rfl⟩
      go_wp2_with fail
      refine (rright_any _ _).mono ?_
      rintro e' w' ⟨rfl, rfl⟩
      go_wp2_with fail
      refine (H1.out _).mono ?_
      rintro e' wb ⟨rfl, hbb⟩
      have k1 := hba.trans (hbb.mono hba.size)
      go_wp2
      go_ret
      exact ⟨rfl, k1⟩
    · simp only [Bool.not_eq_true] at ha
      clear hr
      go_enter Tryd.func14, Tryd.ntmps14
      go_wp2_with fail
      refine (HW.out).mono ?_
      rintro e' wa ⟨rfl, hba⟩
      go_wp2_with fail
      refine (rright_any _ _).mono ?_
      rintro e' w' ⟨rfl, rfl⟩
      go_wp2_with fail
      refine (H1.out _).mono ?_
      rintro e' wb ⟨rfl, hbb⟩
      have k1 := hba.trans (hbb.mono hba.size)
      go_wp2
      go_ret
      exact ⟨rfl, k1⟩

end Go.Proofs.YthdjpkpkkdnofaaDoor
