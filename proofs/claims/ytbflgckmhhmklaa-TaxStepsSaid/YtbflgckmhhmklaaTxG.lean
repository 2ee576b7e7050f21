/-
  What is proved: the contracts of tax.fits, isAmount, ToDate, Yearly, Single, and the document's fits, ToDate, Single. Conditions: slices are shorter than 2^62.
-/
import Derived.Test.YtbflgckmhhmklaaTxF
import Derived.Laws.StructEq
namespace Go.Proofs.Ytbflgckmhhmklaa
open Go Go.RowKit Go.Proofs
set_option linter.unusedVariables false

/-- An amount fits. -/
def fitsB (c : Int) : Bool := decide (-1125899906842624 ≤ c) && decide (c ≤ 1125899906842624)
theorem fitsB_iff {c : Int} : fitsB c = true ↔ -1125899906842624 ≤ c ∧ c ≤ 1125899906842624 := by simp [fitsB]
theorem fitsB_eq (c : Int) : (c == min (max c (-1125899906842624)) 1125899906842624) = fitsB c := by
  rw [Bool.eq_iff_iff, fitsB_iff, beq_iff_eq]; omega
/-- An amount that a card may have. -/
def amtB (c : Int) : Bool := decide (0 ≤ c) && fitsB c
theorem amtB_iff {c : Int} : amtB c = true ↔ 0 ≤ c ∧ c ≤ 1125899906842624 := by
  unfold amtB; rw [Bool.and_eq_true, fitsB_iff, decide_eq_true_eq]; omega

theorem within_any (c : Int) (w : World) : Calls Try.prog 24 #[.int .i64 c] w fun e w' => e = .returned (.int .i64 (min (max c (-1125899906842624)) 1125899906842624)) ∧ w = w' := by
  go_enter Try.func24, Try.ntmps24
  go_wp2
  go_ret
  exact ⟨rfl, rfl⟩
theorem fits_any (c : Int) (w : World) : Calls Try.prog 17 #[.int .i64 c] w fun e w' => e = .returned (.bool (fitsB c)) ∧ w = w' := by
  have H := Lib.hid (within_any c w)
  rw [← fitsB_eq]
  generalize min (max c (-1125899906842624)) 1125899906842624 = m at H ⊢
  go_enter Try.func17, Try.ntmps17
  go_wp2_with fail
  refine (H.out).mono ?_
  rintro e w1 ⟨rfl, rfl⟩
  go_wp2
  go_ret
  exact ⟨rfl, rfl⟩
theorem isAmount_any (c : Int) (w : World) : Calls Try.prog 19 #[.int .i64 c] w fun e w' => e = .returned (.bool (amtB c)) ∧ w = w' := by
  have H := Lib.hid (fits_any c w)
  by_cases h0 : 0 ≤ c
  · rw [show amtB c = fitsB c by simp [amtB, h0]]
    generalize fitsB c = b at H ⊢
    go_enter Try.func19, Try.ntmps19
    go_wp2_with fail
    refine (H.out).mono ?_
    rintro e w1 ⟨rfl, rfl⟩
    go_wp2
    go_ret
    exact ⟨rfl, rfl⟩
  · have d0 : decide (0 ≤ c) = false := decide_eq_false h0
    rw [show amtB c = false by simp [amtB, h0]]
    go_enter Try.func19, Try.ntmps19
    go_wp2
    go_ret
    exact ⟨rfl, rfl⟩
theorem rfits_any (c : Int) (w : World) : Calls Try.prog 21 #[.int .i64 c] w fun e w' => e = .returned (.bool (fitsB c)) ∧ w = w' := by
  by_cases h1 : -1125899906842624 ≤ c
  · by_cases h2 : c ≤ 1125899906842624
    · rw [fitsB_iff.2 ⟨h1, h2⟩]
      go_enter Try.func21, Try.ntmps21
      go_wp2
      go_ret
      exact ⟨rfl, rfl⟩
    · rw [show fitsB c = false by simp [fitsB, h2]]
      go_enter Try.func21, Try.ntmps21
      go_wp2
      go_ret
      exact ⟨rfl, rfl⟩
  · have d0 : decide (-1125899906842624 ≤ c) = false := decide_eq_false h1
    rw [show fitsB c = false by simp [fitsB, h1]]
    go_enter Try.func21, Try.ntmps21
    go_wp2
    go_ret
    exact ⟨rfl, rfl⟩

/-- A card in a block. -/
def Cd (w : World) (g : Nat) (al ex : Int) (p : Option Addr) (n cp : Nat) : Prop := w.cell? ⟨g, 0, none⟩ = some (.int .i64 al) ∧ w.cell? ⟨g, 1, none⟩ = some (.int .i64 ex) ∧ w.cell? ⟨g, 2, none⟩ = some (.slice p n cp)
theorem Cd.lt {w : World} {g : Nat} {al ex : Int} {p : Option Addr} {n cp : Nat} (h : Cd w g al ex p n cp) : g < w.heap.size := World.block_lt_of_cell? w _ h.1
theorem Cd.kp {w w' : World} {g : Nat} {al ex : Int} {p : Option Addr} {n cp : Nat} (h : Cd w g al ex p n cp) (hb : Below w.heap.size w w') : Cd w' g al ex p n cp := by
  have hl := h.lt
  obtain ⟨h0, h1, h2⟩ := h
  exact ⟨(hb.cell (p := ⟨g, 0, none⟩) hl).trans h0, (hb.cell (p := ⟨g, 1, none⟩) hl).trans h1, (hb.cell (p := ⟨g, 2, none⟩) hl).trans h2⟩
theorem Cd.new (w : World) (al ex : Int) (p : Option Addr) (n cp : Nat) (T : TypeId) : Cd (w.alloc (.cells #[.int .i64 al, .int .i64 ex, .slice p n cp] T)) w.heap.size al ex p n cp := by
  unfold Cd; refine ⟨?_, ?_, ?_⟩ <;> (rw [World.cell?_alloc_new]; rfl)
theorem Cd.kb {w w' : World} {g B : Nat} {al ex : Int} {p : Option Addr} {n cp : Nat} (h : Cd w g al ex p n cp) (hg : g < B) (hb : Below B w w') : Cd w' g al ex p n cp := by
  obtain ⟨h0, h1, h2⟩ := h
  exact ⟨(hb.cell (p := ⟨g, 0, none⟩) hg).trans h0, (hb.cell (p := ⟨g, 1, none⟩) hg).trans h1, (hb.cell (p := ⟨g, 2, none⟩) hg).trans h2⟩

/-- What is wrong with the numbers of ToDate. -/
def okT (base idx of al ex : Int) : Bool := (decide (1 ≤ idx) && (decide (idx ≤ of) && decide (of ≤ 400))) && (fitsB base && (amtB al && amtB ex))
theorem okT_iff {base idx of al ex : Int} : okT base idx of al ex = true ↔ (1 ≤ idx ∧ idx ≤ of ∧ of ≤ 400) ∧ (-1125899906842624 ≤ base ∧ base ≤ 1125899906842624) ∧ (0 ≤ al ∧ al ≤ 1125899906842624) ∧ 0 ≤ ex ∧ ex ≤ 1125899906842624 := by
  unfold okT
  rw [Bool.and_eq_true, Bool.and_eq_true, Bool.and_eq_true, Bool.and_eq_true, Bool.and_eq_true, fitsB_iff, amtB_iff, amtB_iff, decide_eq_true_eq, decide_eq_true_eq, decide_eq_true_eq]
/-- The tax to date, or 0; the error's number. -/
def todE (base idx of al ex : Int) (f : Nat → Bd) (n : Nat) : Int := if okT base idx of al ex = true then scE f n (base * of - al * idx) idx of else 2
def todV (base idx of al ex : Int) (f : Nat → Bd) (n : Nat) : Int := if okT base idx of al ex = true then scV f n (base * of - al * idx) idx of else 0
theorem taxed_bd {base idx of al ex : Int} (h : okT base idx of al ex = true) : (-450359962737049600 ≤ base * of ∧ base * of ≤ 450359962737049600) ∧ (0 ≤ al * idx ∧ al * idx ≤ 450359962737049600) := by
  obtain ⟨⟨h1, h2, h3⟩, ⟨h4, h5⟩, ⟨h6, h7⟩, -⟩ := okT_iff.1 h
  have e1 : base * of ≤ 1125899906842624 * of := Int.mul_le_mul_of_nonneg_right h5 (by omega)
  have e2 : -1125899906842624 * of ≤ base * of := Int.mul_le_mul_of_nonneg_right h4 (by omega)
  exact ⟨⟨by omega, by omega⟩, idx_bd h6 h7 h1 (by omega)⟩

set_option maxHeartbeats 4000000 in
set_option maxRecDepth 100000 in
theorem ToDate_any (base idx of al ex : Int) (p : Option Addr) (n cp : Nat) (f : Nat → Bd) (w : World) (hn : n ≤ 4611686018427387904) (hf : BdIn w p n f) :
    Calls Try.prog 12 #[.int .i64 base, .int .i64 idx, .int .i64 of, .agg #[.int .i64 al, .int .i64 ex, .slice p n cp]] w fun e w' => e = .returned (.tuple #[.int .i64 (todV base idx of al ex f n), .int .i64 (todE base idx of al ex f n)]) ∧ Below w.heap.size w w' := by
  have hb0 : Below w.heap.size w (w.alloc (.cells #[.int .i64 al, .int .i64 ex, .slice p n cp] 25)) := (Below.refl _ _).alloc (Nat.le_refl _) _
  have hok : okT base idx of al ex = ((decide (1 ≤ idx) && (decide (idx ≤ of) && decide (of ≤ 400))) && (fitsB base && (amtB al && amtB ex))) := rfl
  have hV : todV base idx of al ex f n = if okT base idx of al ex = true then scV f n (base * of - al * idx) idx of else 0 := rfl
  have hE : todE base idx of al ex f n = if okT base idx of al ex = true then scE f n (base * of - al * idx) idx of else 2 := rfl
  have hbd := fun h => @taxed_bd base idx of al ex h
  have HS : okT base idx of al ex = true → ∀ W, Below w.heap.size w W → Calls Try.prog 20 #[.int .i64 (base * of - al * idx), .int .i64 idx, .int .i64 of, .slice p n cp] W fun e w' => e = .returned (.tuple #[.int .i64 (scV f n (base * of - al * idx) idx of), .int .i64 (scE f n (base * of - al * idx) idx of)]) ∧ Below W.heap.size W w' := fun h W hb => by
    obtain ⟨⟨h1, h2, h3⟩, -⟩ := okT_iff.1 h
    have := taxed_bd h
    exact Scaled_any p n cp f _ idx of hn h1 h2 h3 (by omega) (by omega) W (hf.kp hb)
  have HF := Lib.hid (fun W => fits_any base W)
  have H1 := Lib.hid (fun W => isAmount_any al W)
  have H2 := Lib.hid (fun W => isAmount_any ex W)
  generalize okT base idx of al ex = ok at hok hV hE HS hbd
  generalize todV base idx of al ex f n = V at hV ⊢
  generalize todE base idx of al ex f n = E at hE ⊢
  generalize scV f n (base * of - al * idx) idx of = SV at hV HS
  generalize scE f n (base * of - al * idx) idx of = SE at hE HS
  by_cases h1 : 1 ≤ idx
  case neg =>
    rw [decide_eq_false h1, Bool.false_and, Bool.false_and] at hok
    subst hok
    obtain rfl : V = 0 := hV
    obtain rfl : E = 2 := hE
    have d1 : decide (idx < 1) = true := decide_eq_true (by omega)
    clear hbd HS
    go_enter Try.func12, Try.ntmps12
    go_wp2
    go_ret2
    exact ⟨rfl, hb0⟩
  case pos =>
  have d1 : decide (idx < 1) = false := decide_eq_false (by omega)
  by_cases h2 : idx ≤ of
  case neg =>
    rw [decide_eq_false h2, Bool.false_and, Bool.and_false, Bool.false_and] at hok
    subst hok
    obtain rfl : V = 0 := hV
    obtain rfl : E = 2 := hE
    have d2 : decide (of < idx) = true := decide_eq_true (by omega)
    clear hbd HS
    go_enter Try.func12, Try.ntmps12
    go_wp2
    go_ret2
    exact ⟨rfl, hb0⟩
  case pos =>
  have d2 : decide (of < idx) = false := decide_eq_false (by omega)
  by_cases h3 : of ≤ 400
  case neg =>
    rw [decide_eq_false h3, Bool.and_false, Bool.and_false, Bool.false_and] at hok
    subst hok
    obtain rfl : V = 0 := hV
    obtain rfl : E = 2 := hE
    have d3 : decide (400 < of) = true := decide_eq_true (by omega)
    clear hbd HS
    go_enter Try.func12, Try.ntmps12
    go_wp2
    go_ret2
    exact ⟨rfl, hb0⟩
  case pos =>
  have d3 : decide (400 < of) = false := decide_eq_false (by omega)
  rw [decide_eq_true h1, decide_eq_true h2, decide_eq_true h3, Bool.true_and, Bool.true_and, Bool.true_and] at hok
  generalize fitsB base = x0 at HF hok
  generalize amtB al = x1 at H1 hok
  generalize amtB ex = x2 at H2 hok
  replace hV := Lib.hid hV
  replace hE := Lib.hid hE
  replace HS := Lib.hid HS
  replace hbd := Lib.hid hbd
  have hok' := Lib.hid hok
  clear hok
  cases x0 <;> cases x1 <;> cases x2
  case true.true.true =>
    obtain rfl : ok = true := hok'.out
    obtain rfl : V = SV := hV.out
    obtain rfl : E = SE := hE.out
    obtain ⟨⟨k0, k1⟩, k2, k3⟩ := hbd.out rfl
    clear hV hE hok'
    go_enter Try.func12, Try.ntmps12
    go_wp2_with (first | ((with_reducible refine (HF.out _).mono ?_); rintro e w3 ⟨rfl, rfl⟩) | ((with_reducible refine (H1.out _).mono ?_); rintro e w3 ⟨rfl, rfl⟩) | ((with_reducible refine (H2.out _).mono ?_); rintro e w3 ⟨rfl, rfl⟩))
    refine (HS.out (by trivial) _ hb0).mono ?_
    rintro e w4 ⟨rfl, hb4⟩
    go_wp2
    go_ret2
    exact ⟨rfl, hb0.trans (hb4.mono hb0.size)⟩
  all_goals
    obtain rfl : ok = false := hok'.out
    obtain rfl : V = 0 := hV.out
    obtain rfl : E = 2 := hE.out
    clear hV hE hok' hbd HS
    go_enter Try.func12, Try.ntmps12
    go_wp2_with (first | ((with_reducible refine (HF.out _).mono ?_); rintro e w3 ⟨rfl, rfl⟩) | ((with_reducible refine (H1.out _).mono ?_); rintro e w3 ⟨rfl, rfl⟩) | ((with_reducible refine (H2.out _).mono ?_); rintro e w3 ⟨rfl, rfl⟩))
    go_ret2
    exact ⟨rfl, hb0⟩

end Go.Proofs.Ytbflgckmhhmklaa
