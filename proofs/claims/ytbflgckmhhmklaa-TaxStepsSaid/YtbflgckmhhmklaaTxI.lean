/-
  What is proved: the contracts of tax.Yearly, Single, and the document's Single. Conditions: slices are shorter than 2^62.
-/
import Derived.Test.YtbflgckmhhmklaaTxH
namespace Go.Proofs.Ytbflgckmhhmklaa
open Go Go.RowKit Go.Proofs
set_option linter.unusedVariables false

theorem scaledV_bd {f : Nat → Bd} {n : Nat} (hr : Rises f n) {x idx of : Int} (i0 : 1 ≤ idx) (o0 : 1 ≤ of) : 0 ≤ scaledV f n x idx of ∧ scaledV f n x idx of ≤ 1125899906842624 := by
  have hb := takes_bd hr (x := x) i0
  have h0 : 0 ≤ roundT (takesV f n x idx) of := by unfold roundT; exact Int.ediv_nonneg (by omega) (by omega)
  unfold scaledV
  split <;> omega
theorem todV_bd (base idx of al ex : Int) (f : Nat → Bd) (n : Nat) : 0 ≤ todV base idx of al ex f n ∧ todV base idx of al ex f n ≤ 1125899906842624 := by
  unfold todV
  split
  · rename_i h
    obtain ⟨⟨h1, h2, h3⟩, -⟩ := okT_iff.1 h
    unfold scV
    split
    · rename_i hc
      exact scaledV_bd (chkT_ok hc).2 h1 (by omega)
    · omega
  · omega
theorem tod_ex {base idx of al ex : Int} {f : Nat → Bd} {n : Nat} (h : todE base idx of al ex f n = 0) : okT base idx of al ex = true := by
  unfold todE at h
  by_cases hk : okT base idx of al ex = true
  · exact hk
  · rw [if_neg hk] at h; cases h
/-- What a period alone has, or the error's number. -/
def sngE (base of al ex : Int) (f : Nat → Bd) (n : Nat) : Int := if todE base 1 of al ex f n = 0 then (if fitsB (todV base 1 of al ex f n + ex) = true then 0 else 9) else todE base 1 of al ex f n
def sngV (base of al ex : Int) (f : Nat → Bd) (n : Nat) : Int := if sngE base of al ex f n = 0 then todV base 1 of al ex f n + ex else 0

set_option maxHeartbeats 4000000 in
theorem Yearly_any (base al ex : Int) (p : Option Addr) (n cp : Nat) (f : Nat → Bd) (w : World) (hn : n ≤ 4611686018427387904) (hf : BdIn w p n f) :
    Calls Try.prog 14 #[.int .i64 base, .agg #[.int .i64 al, .int .i64 ex, .slice p n cp]] w fun e w' => e = .returned (.tuple #[.int .i64 (todV base 1 1 al ex f n), .int .i64 (todE base 1 1 al ex f n)]) ∧ Below w.heap.size w w' := by
  have hb0 : Below w.heap.size w (w.alloc (.cells #[.int .i64 al, .int .i64 ex, .slice p n cp] 25)) := (Below.refl _ _).alloc (Nat.le_refl _) _
  have H := Lib.hid (ToDate_any base 1 1 al ex p n cp f _ hn (hf.kp hb0))
  generalize todV base 1 1 al ex f n = V at H ⊢
  generalize todE base 1 1 al ex f n = E at H ⊢
  go_enter Try.func14, Try.ntmps14
  go_wp2_with fail
  refine (H.out).mono ?_
  rintro e w1 ⟨rfl, hb⟩
  go_wp2
  go_ret2
  exact ⟨rfl, hb0.trans (hb.mono hb0.size)⟩

set_option maxHeartbeats 4000000 in
theorem Single_any (base of al ex : Int) (p : Option Addr) (n cp : Nat) (f : Nat → Bd) (w : World) (hn : n ≤ 4611686018427387904) (hf : BdIn w p n f) :
    Calls Try.prog 10 #[.int .i64 base, .int .i64 of, .agg #[.int .i64 al, .int .i64 ex, .slice p n cp]] w fun e w' => e = .returned (.tuple #[.int .i64 (sngV base of al ex f n), .int .i64 (sngE base of al ex f n)]) ∧ Below w.heap.size w w' := by
  have hb0 : Below w.heap.size w (w.alloc (.cells #[.int .i64 al, .int .i64 ex, .slice p n cp] 25)) := (Below.refl _ _).alloc (Nat.le_refl _) _
  have hcd := Cd.new w al ex p n cp 25
  have H := Lib.hid (ToDate_any base 1 of al ex p n cp f _ hn (hf.kp hb0))
  have hE : sngE base of al ex f n = if todE base 1 of al ex f n = 0 then (if fitsB (todV base 1 of al ex f n + ex) = true then 0 else 9) else todE base 1 of al ex f n := rfl
  have hV : sngV base of al ex f n = if sngE base of al ex f n = 0 then todV base 1 of al ex f n + ex else 0 := rfl
  have hx := fun h => (okT_iff.1 (@tod_ex base 1 of al ex f n h)).2.2.2
  obtain ⟨v0, v1⟩ := todV_bd base 1 of al ex f n
  generalize sngV base of al ex f n = V at hV ⊢
  generalize sngE base of al ex f n = E at hE hV ⊢
  generalize todV base 1 of al ex f n = TV at H hE hV v0 v1
  generalize todE base 1 of al ex f n = TE at H hE hx
  have HF := Lib.hid (fun W => fits_any (TV + ex) W)
  replace hE := Lib.hid hE
  replace hV := Lib.hid hV
  replace hx := Lib.hid hx
  go_enter Try.func10, Try.ntmps10
  go_wp2_with fail
  refine (H.out).mono ?_
  rintro e w1 ⟨rfl, hb⟩
  have hk := hb0.trans (hb.mono hb0.size)
  obtain ⟨c0, c1, c2⟩ := hcd.kp hb
  by_cases h0 : TE = 0
  case neg =>
    have d0 : (TE != 0) = true := by simpa using h0
    have hE9 : E = TE := by rw [hE.out, if_neg h0]
    obtain rfl : V = 0 := by rw [hV.out, hE9, if_neg h0]
    subst hE9
    clear h0 hE hV
    go_wp2
    go_ret2
    exact ⟨rfl, hk⟩
  case pos =>
    have hx9 := hx.out h0
    subst h0
    obtain ⟨x0, x1⟩ := hx9
    by_cases hf9 : fitsB (TV + ex) = true
    · obtain rfl : E = 0 := by rw [hE.out, if_pos rfl, if_pos hf9]
      obtain rfl : V = TV + ex := by rw [hV.out, if_pos rfl]
      rw [hf9] at HF
      clear hE hV hx hf9
      go_wp2_with (refine (HF.out _).mono ?_; rintro e w3 ⟨rfl, rfl⟩)
      go_ret2
      exact ⟨rfl, hk⟩
    · obtain rfl : E = 9 := by rw [hE.out, if_pos rfl, if_neg hf9]
      obtain rfl : V = 0 := by rw [hV.out, if_neg (by decide)]
      rw [Bool.not_eq_true] at hf9
      rw [hf9] at HF
      clear hE hV hx hf9
      go_wp2_with (refine (HF.out _).mono ?_; rintro e w3 ⟨rfl, rfl⟩)
      go_ret2
      exact ⟨rfl, hk⟩

set_option maxHeartbeats 4000000 in
theorem rSingle_any (base of al ex : Int) (p : Option Addr) (n cp : Nat) (f : Nat → Bd) (w : World) (hn : n ≤ 4611686018427387904) (hf : BdIn w p n f) :
    Calls Try.prog 15 #[.int .i64 base, .int .i64 of, .agg #[.int .i64 al, .int .i64 ex, .slice p n cp]] w fun e w' => e = .returned (.tuple #[.int .i64 (sngV base of al ex f n), .int .i64 (sngE base of al ex f n)]) ∧ Below w.heap.size w w' := by
  have hb0 : Below w.heap.size w (w.alloc (.cells #[.int .i64 al, .int .i64 ex, .slice p n cp] 25)) := (Below.refl _ _).alloc (Nat.le_refl _) _
  have hcd := Cd.new w al ex p n cp 25
  have H := Lib.hid (rToDate_any base 1 of al ex p n cp f _ hn (hf.kp hb0))
  have hE : sngE base of al ex f n = if todE base 1 of al ex f n = 0 then (if fitsB (todV base 1 of al ex f n + ex) = true then 0 else 9) else todE base 1 of al ex f n := rfl
  have hV : sngV base of al ex f n = if sngE base of al ex f n = 0 then todV base 1 of al ex f n + ex else 0 := rfl
  have hx := fun h => (okT_iff.1 (@tod_ex base 1 of al ex f n h)).2.2.2
  obtain ⟨v0, v1⟩ := todV_bd base 1 of al ex f n
  generalize sngV base of al ex f n = V at hV ⊢
  generalize sngE base of al ex f n = E at hE hV ⊢
  generalize todV base 1 of al ex f n = TV at H hE hV v0 v1
  generalize todE base 1 of al ex f n = TE at H hE hx
  have HF := Lib.hid (fun W => rfits_any (TV + ex) W)
  replace hE := Lib.hid hE
  replace hV := Lib.hid hV
  replace hx := Lib.hid hx
  go_enter Try.func15, Try.ntmps15
  go_wp2_with fail
  refine (H.out).mono ?_
  rintro e w1 ⟨rfl, hb⟩
  have hk := hb0.trans (hb.mono hb0.size)
  obtain ⟨c0, c1, c2⟩ := hcd.kp hb
  by_cases h0 : TE = 0
  case neg =>
    have d0 : (TE != 0) = true := by simpa using h0
    have hE9 : E = TE := by rw [hE.out, if_neg h0]
    obtain rfl : V = 0 := by rw [hV.out, hE9, if_neg h0]
    subst hE9
    clear h0 hE hV
    go_wp2
    go_ret2
    exact ⟨rfl, hk⟩
  case pos =>
    have hx9 := hx.out h0
    subst h0
    obtain ⟨x0, x1⟩ := hx9
    by_cases hf9 : fitsB (TV + ex) = true
    · obtain rfl : E = 0 := by rw [hE.out, if_pos rfl, if_pos hf9]
      obtain rfl : V = TV + ex := by rw [hV.out, if_pos rfl]
      rw [hf9] at HF
      clear hE hV hx hf9
      go_wp2_with (refine (HF.out _).mono ?_; rintro e w3 ⟨rfl, rfl⟩)
      go_ret2
      exact ⟨rfl, hk⟩
    · obtain rfl : E = 9 := by rw [hE.out, if_pos rfl, if_neg hf9]
      obtain rfl : V = 0 := by rw [hV.out, if_neg (by decide)]
      rw [Bool.not_eq_true] at hf9
      rw [hf9] at HF
      clear hE hV hx hf9
      go_wp2_with (refine (HF.out _).mono ?_; rintro e w3 ⟨rfl, rfl⟩)
      go_ret2
      exact ⟨rfl, hk⟩

end Go.Proofs.Ytbflgckmhhmklaa
