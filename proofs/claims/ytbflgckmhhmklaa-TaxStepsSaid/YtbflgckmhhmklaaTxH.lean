/-
  What is proved: the contract of the document's ToDate: it is the program's. Conditions: slices are shorter than 2^62.
-/
import Derived.Test.YtbflgckmhhmklaaTxG
namespace Go.Proofs.Ytbflgckmhhmklaa
open Go Go.RowKit Go.Proofs
set_option linter.unusedVariables false

/-- Below nothing is as nothing. -/
theorem takes_neg {f : Nat → Bd} {n : Nat} (hr : Rises f n) {x idx : Int} (hx : x ≤ 0) : takesV f n x idx = 0 := by
  have : cnt f n x idx = 0 := cnt_is (Nat.zero_le _) (fun j h => by omega) (fun h => by rw [hr.1 h]; omega)
  unfold takesV
  rw [this]; rfl
theorem scaled_neg {f : Nat → Bd} {n : Nat} (hr : Rises f n) {x idx of : Int} (hx : x ≤ 0) : scaledV f n 0 idx of = scaledV f n x idx of ∧ scaledE f n 0 idx of = scaledE f n x idx of := by
  unfold scaledV scaledE
  rw [takes_neg hr hx, takes_neg hr (Int.le_refl 0)]
  exact ⟨rfl, rfl⟩
theorem scaled_err {f : Nat → Bd} {n : Nat} {x idx of : Int} (h : scaledE f n x idx of ≠ 0) : scaledV f n x idx of = 0 := by
  unfold scaledE at h
  unfold scaledV
  by_cases hq : roundT (takesV f n x idx) of ≤ 1125899906842624
  · rw [if_pos hq] at h; exact absurd rfl h
  · rw [if_neg hq]

set_option maxHeartbeats 8000000 in
set_option maxRecDepth 100000 in
theorem rToDate_any (base idx of al ex : Int) (p : Option Addr) (n cp : Nat) (f : Nat → Bd) (w : World) (hn : n ≤ 4611686018427387904) (hf : BdIn w p n f) :
    Calls Try.prog 13 #[.int .i64 base, .int .i64 idx, .int .i64 of, .agg #[.int .i64 al, .int .i64 ex, .slice p n cp]] w fun e w' => e = .returned (.tuple #[.int .i64 (todV base idx of al ex f n), .int .i64 (todE base idx of al ex f n)]) ∧ Below w.heap.size w w' := by
  have hb0 : Below w.heap.size w (w.alloc (.cells #[.int .i64 al, .int .i64 ex, .slice p n cp] 25)) := (Below.refl _ _).alloc (Nat.le_refl _) _
  have hok : okT base idx of al ex = ((decide (1 ≤ idx) && (decide (idx ≤ of) && decide (of ≤ 400))) && (fitsB base && (amtB al && amtB ex))) := rfl
  have hV : todV base idx of al ex f n = if okT base idx of al ex = true then scV f n (base * of - al * idx) idx of else 0 := rfl
  have hE : todE base idx of al ex f n = if okT base idx of al ex = true then scE f n (base * of - al * idx) idx of else 2 := rfl
  have hbd := fun h => @taxed_bd base idx of al ex h
  have HC := Lib.hid (fun W hb => rCheck_any p n cp f W hn (hf.kp (w' := W) hb))
  have HS : okT base idx of al ex = true → chkT f n = 0 → ∀ x, (x = base * of - al * idx ∨ (x = 0 ∧ base * of - al * idx ≤ 0)) → ∀ W, Below w.heap.size w W → Calls Try.prog 23 #[.int .i64 x, .int .i64 idx, .int .i64 of, .slice p n cp] W fun e w' => e = .returned (.tuple #[.int .i64 (scaledV f n (base * of - al * idx) idx of), .int .i64 (scaledE f n (base * of - al * idx) idx of)]) ∧ Below W.heap.size W w' := fun h hc x hx W hb => by
    obtain ⟨⟨h1, h2, h3⟩, -⟩ := okT_iff.1 h
    obtain ⟨h64, hr⟩ := chkT_ok hc
    have hbx := taxed_bd h
    rcases hx with rfl | ⟨rfl, hx⟩
    · exact rScaled_any p n cp f _ idx of h64 hr h1 h2 h3 (by omega) (by omega) W (hf.kp hb)
    · have := rScaled_any p n cp f 0 idx of h64 hr h1 h2 h3 (by omega) (by omega) W (hf.kp hb)
      rw [(scaled_neg hr hx).1, (scaled_neg hr hx).2] at this
      exact this
  have hse := fun h => @scaled_err f n (base * of - al * idx) idx of h
  unfold scV at hV
  unfold scE at hE
  have HF := Lib.hid (fun W => rfits_any base W)
  have H1 := Lib.hid (fun W => rfits_any al W)
  have H2 := Lib.hid (fun W => rfits_any ex W)
  generalize okT base idx of al ex = ok at hok hV hE HS hbd
  generalize todV base idx of al ex f n = V at hV ⊢
  generalize todE base idx of al ex f n = E at hE ⊢
  generalize scaledV f n (base * of - al * idx) idx of = SV at hV HS hse
  generalize scaledE f n (base * of - al * idx) idx of = SE at hE HS hse
  generalize chkT f n = C at hV hE HS HC
  by_cases h1 : 1 ≤ idx
  case neg =>
    rw [decide_eq_false h1, Bool.false_and, Bool.false_and] at hok
    subst hok
    obtain rfl : V = 0 := hV
    obtain rfl : E = 2 := hE
    have d1 : decide (idx < 1) = true := decide_eq_true (by omega)
    clear hbd HS hse
    go_enter Try.func13, Try.ntmps13
    go_wp2
    go_ret2
    exact ⟨rfl, hb0⟩
  case pos =>
  have d1 : decide (idx < 1) = false := decide_eq_false (by omega)
  by_cases h2 : idx ≤ of
  case neg =>
    rw [decide_eq_false h2, Bool.false_and, Bool.and_false, Bool.false_and] at hok
    subst hok
    obtain rfl : V = 0 := hV
    obtain rfl : E = 2 := hE
    have d2 : decide (of < idx) = true := decide_eq_true (by omega)
    clear hbd HS hse
    go_enter Try.func13, Try.ntmps13
    go_wp2
    go_ret2
    exact ⟨rfl, hb0⟩
  case pos =>
  have d2 : decide (of < idx) = false := decide_eq_false (by omega)
  by_cases h3 : of ≤ 400
  case neg =>
    rw [decide_eq_false h3, Bool.and_false, Bool.and_false, Bool.false_and] at hok
    subst hok
    obtain rfl : V = 0 := hV
    obtain rfl : E = 2 := hE
    have d3 : decide (400 < of) = true := decide_eq_true (by omega)
    clear hbd HS hse
    go_enter Try.func13, Try.ntmps13
    go_wp2
    go_ret2
    exact ⟨rfl, hb0⟩
  case pos =>
  have d3 : decide (400 < of) = false := decide_eq_false (by omega)
  rw [decide_eq_true h1, decide_eq_true h2, decide_eq_true h3, Bool.true_and, Bool.true_and, Bool.true_and] at hok
  unfold amtB at hok
  generalize fitsB base = x0 at HF hok
  generalize fitsB al = x1 at H1 hok
  generalize fitsB ex = x2 at H2 hok
  replace hV := Lib.hid hV
  replace hE := Lib.hid hE
  replace HS := Lib.hid HS
  replace hbd := Lib.hid hbd
  replace hse := Lib.hid hse
  have hways : (decide (0 ≤ al) = decide (0 ≤ al)) := rfl
  obtain ⟨y1, hy1⟩ : ∃ y, decide (al < 0) = y := ⟨_, rfl⟩
  obtain ⟨y2, hy2⟩ : ∃ y, decide (ex < 0) = y := ⟨_, rfl⟩
  rw [show decide (0 ≤ al) = !y1 by rw [← hy1]; rw [Bool.eq_iff_iff]; simp, show decide (0 ≤ ex) = !y2 by rw [← hy2]; rw [Bool.eq_iff_iff]; simp] at hok
  have hok' := Lib.hid hok
  clear hok hways
  cases x0 <;> cases x1 <;> cases x2 <;> cases y1 <;> cases y2
  case true.true.true.false.false =>
    obtain rfl : ok = true := hok'.out
    obtain ⟨⟨k0, k1⟩, k2, k3⟩ := hbd.out rfl
    clear hok'
    go_enter Try.func13, Try.ntmps13
    go_wp2_with (first | ((with_reducible refine (HF.out _).mono ?_); rintro e w3 ⟨rfl, rfl⟩) | ((with_reducible refine (H1.out _).mono ?_); rintro e w3 ⟨rfl, rfl⟩) | ((with_reducible refine (H2.out _).mono ?_); rintro e w3 ⟨rfl, rfl⟩))
    have hcd := Cd.new w al ex p n cp 25
    generalize w.alloc (.cells #[.int .i64 al, .int .i64 ex, .slice p n cp] 25) = W0 at hb0 hcd ⊢
    refine (HC.out _ hb0).mono ?_
    rintro e w4 ⟨rfl, hb4⟩
    have hk4 := hb0.trans (hb4.mono hb0.size)
    obtain ⟨c0, c1, c2⟩ := hcd.kp hb4
    by_cases hC : C = 0
    case neg =>
      have dC : (C != 0) = true := by simpa using hC
      obtain rfl : V = 0 := by have h := hV.out; simpa [hC] using h
      have hE9 : E = C := by have h := hE.out; simpa [hC] using h
      subst hE9
      clear hC hV hE
      go_wp2
      go_ret2
      exact ⟨rfl, hk4⟩
    case pos =>
    subst hC
    obtain rfl : V = SV := by have h := hV.out; simpa using h
    obtain rfl : E = SE := by have h := hE.out; simpa using h
    clear hV hE
    by_cases hx : base * of - al * idx < 0
    · have HS' := Lib.hid (HS.out (by trivial) (by trivial) 0 (Or.inr ⟨rfl, by omega⟩))
      clear HS
      go_wp2_with fail
      refine (HS'.out _ hk4).mono ?_
      rintro e w5 ⟨rfl, hb5⟩
      by_cases hS : E = 0
      · subst hS
        go_wp2
        go_ret2
        exact ⟨rfl, hk4.trans (hb5.mono hk4.size)⟩
      · have dS : (E != 0) = true := by simpa using hS
        obtain rfl : V = 0 := hse.out hS
        clear hS
        go_wp2
        go_ret2
        exact ⟨rfl, hk4.trans (hb5.mono hk4.size)⟩
    · have HS' := Lib.hid (HS.out (by trivial) (by trivial) _ (Or.inl rfl))
      clear HS
      go_wp2_with fail
      refine (HS'.out _ hk4).mono ?_
      rintro e w5 ⟨rfl, hb5⟩
      by_cases hS : E = 0
      · subst hS
        go_wp2
        go_ret2
        exact ⟨rfl, hk4.trans (hb5.mono hk4.size)⟩
      · have dS : (E != 0) = true := by simpa using hS
        obtain rfl : V = 0 := hse.out hS
        clear hS
        go_wp2
        go_ret2
        exact ⟨rfl, hk4.trans (hb5.mono hk4.size)⟩
  all_goals
    obtain rfl : ok = false := hok'.out
    obtain rfl : V = 0 := hV.out
    obtain rfl : E = 2 := hE.out
    clear hV hE hok' hbd HS hse HC
    go_enter Try.func13, Try.ntmps13
    go_wp2_with (first | ((with_reducible refine (HF.out _).mono ?_); rintro e w3 ⟨rfl, rfl⟩) | ((with_reducible refine (H1.out _).mono ?_); rintro e w3 ⟨rfl, rfl⟩) | ((with_reducible refine (H2.out _).mono ?_); rintro e w3 ⟨rfl, rfl⟩))
    go_ret2
    exact ⟨rfl, hb0⟩

end Go.Proofs.Ytbflgckmhhmklaa
