/-
  What is proved: what Find tells is one; periods compared; the contracts of has, Less, Year and Count. Conditions: the tables read as their texts lay them.
-/
import Derived.Test.YtfmabjfibjnkoaaDoorPdF
namespace Go.Proofs.YtfmabjfibjnkoaaDoor
open Go Go.RowKit Go.Proofs
set_option linter.unusedVariables false

theorem ends_day {k f y a b : Int} (h : Ends k f y a b) : a < b ∧ -25567 ≤ a ∧ b ≤ 84006 := by
  have := h.1.len; exact ⟨by omega, h.2.1, h.2.2.1⟩
theorem OwnP.ends {k f l y i n a b p : Int} (h : OwnP k f l y i n a b p) : Ends k f y a b := by
  obtain ⟨-, -, K, hK, j, hj, -, -, e, -⟩ := h
  have : K[j] = (a, b) := by rw [← e]; simp [List.getD, hj]
  exact (hK.2 (a, b)).1 (by rw [← this]; exact List.getElem_mem hj)
theorem getD_ix2 {K : List (Int × Int)} {j : Nat} (hj : j < K.length) : K.getD j (0, 0) = K[j] := by simp [List.getD, hj]
theorem IsYear.idx {k f y : Int} {K : List (Int × Int)} (h : IsYear k f y K) {j m : Nat} (hj : j < K.length) (hm : m < K.length) (e : K.getD j (0, 0) = K.getD m (0, 0)) : j = m := by
  rw [getD_ix2 hj, getD_ix2 hm] at e
  rcases Nat.lt_trichotomy j m with h1 | h1 | h1
  · have := List.pairwise_iff_getElem.1 h.1 j m hj hm h1
    rw [e] at this; omega
  · exact h1
  · have := List.pairwise_iff_getElem.1 h.1 m j hm hj h1
    rw [e] at this; omega
theorem OwnP.one {k f l y i n a b p y' i' n' a' b' p' d : Int} (h : OwnP k f l y i n a b p) (h' : OwnP k f l y' i' n' a' b' p') (h1 : a ≤ d) (h2 : d < b) (h3 : a' ≤ d) (h4 : d < b') : y = y' ∧ i = i' ∧ n = n' ∧ a = a' ∧ b = b' ∧ p = p' := by
  have E := h.ends
  have E' := h'.ends
  obtain ⟨rfl, rfl⟩ := Blk.one E.1 E'.1 h1 h2 h3 h4
  obtain rfl : y = y' := year_one (d := b - 1) (by have := E.2.2.2.1; omega) (by have := E.2.2.2.2; omega) (by have := E'.2.2.2.1; omega) (by have := E'.2.2.2.2; omega)
  obtain ⟨-, -, K, hK, j, hj, rfl, rfl, e, rfl⟩ := h
  obtain ⟨-, -, K', hK', j', hj', rfl, rfl, e', rfl⟩ := h'
  obtain rfl := hK.one hK'
  obtain rfl := hK.idx hj hj' (e.trans e'.symm)
  exact ⟨rfl, rfl, rfl, rfl, rfl, rfl⟩
theorem inB_of {k f y a b d : Int} (h : Ends k f y a b) (h1 : a ≤ d) (h2 : d < b) : inB d = true := by
  obtain ⟨-, h3, h4⟩ := ends_day h
  exact inB_yes (by omega) (by omega)
theorem FindR.one {k f l d y i n a b p e y' i' n' a' b' p' e' : Int} (h : FindR k f l d y i n a b p e) (h' : FindR k f l d y' i' n' a' b' p' e') : y = y' ∧ i = i' ∧ n = n' ∧ a = a' ∧ b = b' ∧ p = p' ∧ e = e' := by
  rcases h with ⟨hc, rfl, rfl, rfl, rfl, rfl, rfl, rfl⟩ | ⟨hc, hd, rfl, rfl, rfl, rfl, rfl, rfl, rfl⟩ | ⟨hc, hd, ⟨A, B, hB, hA1, hA2, hw⟩, rfl, rfl, rfl, rfl, rfl, rfl, rfl⟩ | ⟨hc, hd, ho, h1, h2, rfl⟩ <;>
    rcases h' with ⟨hc', rfl, rfl, rfl, rfl, rfl, rfl, rfl⟩ | ⟨hc', hd', rfl, rfl, rfl, rfl, rfl, rfl, rfl⟩ | ⟨hc', hd', ⟨A', B', hB', hA1', hA2', hw'⟩, rfl, rfl, rfl, rfl, rfl, rfl, rfl⟩ | ⟨hc', hd', ho', h1', h2', rfl⟩ <;>
    first
    | exact ⟨rfl, rfl, rfl, rfl, rfl, rfl, rfl⟩
    | (exfalso; first | exact hc hc' | exact hc' hc | exact Bool.noConfusion (hd.symm.trans hd'))
    | skip
  · exfalso
    obtain ⟨rfl, rfl⟩ := Blk.one hB ho'.ends.1 hA1 hA2 h1' h2'
    obtain ⟨u1, u2, u3⟩ := ends_day ho'.ends
    rw [show wholeB A B = true by unfold wholeB; rw [inB_yes (by omega) (by omega), inB_yes (by omega) (by omega)]; rfl] at hw
    cases hw
  · exfalso
    obtain ⟨rfl, rfl⟩ := Blk.one hB' ho.ends.1 hA1' hA2' h1 h2
    obtain ⟨u1, u2, u3⟩ := ends_day ho.ends
    rw [show wholeB A' B' = true by unfold wholeB; rw [inB_yes (by omega) (by omega), inB_yes (by omega) (by omega)]; rfl] at hw'
    cases hw'
  · obtain ⟨rfl, rfl, rfl, rfl, rfl, rfl⟩ := ho.one ho' h1 h2 h1' h2'
    exact ⟨rfl, rfl, rfl, rfl, rfl, rfl, rfl⟩
/-- What is found is one of the calendar's just if it is found at its own first day. -/
theorem FindR.own {k f l d y i n a b p e : Int} (h : FindR k f l d y i n a b p e) (he : e = 0) : chkC k f l = 0 ∧ inB d = true ∧ OwnP k f l y i n a b p ∧ a ≤ d ∧ d < b := by
  rcases h with ⟨hc, h1, -⟩ | ⟨-, -, h1, -⟩ | ⟨-, -, -, h1, -⟩ | ⟨hc, hd, ho, h1, h2, -⟩
  · omega
  · omega
  · omega
  · exact ⟨hc, hd, ho, h1, h2⟩
theorem OwnP.found {k f l d y i n a b p : Int} (hc : chkC k f l = 0) (h : OwnP k f l y i n a b p) (h1 : a ≤ d) (h2 : d < b) : FindR k f l d y i n a b p 0 :=
  .inr (.inr (.inr ⟨hc, inB_of h.ends h1 h2, h, h1, h2, rfl⟩))

theorem guardPer : Tryd.prog.eqGuardType Tryd.prog.depth 30 = false := by kernel_rfl
theorem eqlPer (x0 x1 x2 x3 x4 x5 y0 y1 y2 y3 y4 y5 : Int) (W : World) : (binOp .eql 30 (.agg #[.int .i64 x0, .int .i64 x1, .int .i64 x2, .int .i64 x3, .int .i64 x4, .int .i64 x5]) (.agg #[.int .i64 y0, .int .i64 y1, .int .i64 y2, .int .i64 y3, .int .i64 y4, .int .i64 y5])).run Tryd.prog W = .ok (.bool (x0 == y0 && (x1 == y1 && (x2 == y2 && (x3 == y3 && (x4 == y4 && x5 == y5)))))) W := by
  have hs : Tryd.prog.stoodInHeld 30 = false := by kernel_rfl
  have hs2 : Tryd.prog.stoodInHeld 28 = false := by kernel_rfl
  have hu1 := Tryd.underlying30
  have hu2 := Tryd.underlying28
  have hu3 := Tryd.underlying22
  have hu4 := Tryd.underlying3
  cases h0 : (x0 == y0)
  · simp [go_sem, Program.fieldsOf, Op.eqFields, part, hu1, hu2, hu3, hu4, hs, hs2, h0]
  cases h1 : (x1 == y1)
  · simp [go_sem, Program.fieldsOf, Op.eqFields, part, hu1, hu2, hu3, hu4, hs, hs2, h0, h1]
  cases h2 : (x2 == y2)
  · simp [go_sem, Program.fieldsOf, Op.eqFields, part, hu1, hu2, hu3, hu4, hs, hs2, h0, h1, h2]
  cases h3 : (x3 == y3)
  · simp [go_sem, Program.fieldsOf, Op.eqFields, part, hu1, hu2, hu3, hu4, hs, hs2, h0, h1, h2, h3]
  cases h4 : (x4 == y4)
  · simp [go_sem, Program.fieldsOf, Op.eqFields, part, hu1, hu2, hu3, hu4, hs, hs2, h0, h1, h2, h3, h4]
  cases h5 : (x5 == y5) <;> simp [go_sem, Program.fieldsOf, Op.eqFields, part, hu1, hu2, hu3, hu4, hs, hs2, h0, h1, h2, h3, h4, h5]

theorem Less_any (y i n a b p y' i' n' a' b' p' : Int) (w : World) : Calls Tryd.prog 12 #[.agg #[.int .i64 y, .int .i64 i, .int .i64 n, .int .i64 a, .int .i64 b, .int .i64 p], .agg #[.int .i64 y', .int .i64 i', .int .i64 n', .int .i64 a', .int .i64 b', .int .i64 p']] w fun e w' => e = .returned (.bool (decide (y < y' ∨ (y = y' ∧ i < i')))) ∧ Below w.heap.size w w' := by
  rcases Int.lt_trichotomy y y' with h | rfl | h
  · rw [decide_eq_true (Or.inl h)]
    go_enter Tryd.func12, Tryd.ntmps12
    go_wp2
    go_ret
    exact ⟨by simp, ((Below.refl _ _).alloc (Nat.le_refl _) _).alloc (by simp) _⟩
  · by_cases h2 : i < i'
    · rw [decide_eq_true (Or.inr ⟨rfl, h2⟩)]
      go_enter Tryd.func12, Tryd.ntmps12
      go_wp2
      go_ret
      exact ⟨by simp, ((Below.refl _ _).alloc (Nat.le_refl _) _).alloc (by simp) _⟩
    · rw [decide_eq_false (by omega)]
      go_enter Tryd.func12, Tryd.ntmps12
      go_wp2
      go_ret
      exact ⟨by simp, ((Below.refl _ _).alloc (Nat.le_refl _) _).alloc (by simp) _⟩
  · have e1 : (y == y') = false := by simp; omega
    have h3 : ¬ y < y' := by omega
    rw [decide_eq_false (by omega)]
    clear h
    go_enter Tryd.func12, Tryd.ntmps12
    go_wp2
    go_ret
    exact ⟨by simp, ((Below.refl _ _).alloc (Nat.le_refl _) _).alloc (by simp) _⟩

/-- What Year tells. -/
def YearPost (k f l y : Int) (w : World) (e : Ending) (w' : World) : Prop :=
  ∃ (K : List (Int × Int)) (p : Option Addr) (c : Nat) (e' : Int), e = .returned (.tuple #[.slice p K.length c, .int .i64 e']) ∧ (chkC k f l ≠ 0 ∧ e' = chkC k f l ∧ K = [] ∨ chkC k f l = 0 ∧ (y < 1900 ∨ 2199 < y) ∧ e' = 2 ∧ K = [] ∨ chkC k f l = 0 ∧ 1900 ≤ y ∧ y ≤ 2199 ∧ e' = 0 ∧ IsYear k f y K) ∧ PersIn w' p y K.length l K ∧ Below w.heap.size w w'
set_option maxHeartbeats 1000000 in
set_option maxRecDepth 100000 in
theorem Year_any (k f l y : Int) (w : World) (hT : Tabs w) : Calls Tryd.prog 15 #[.agg #[.int .i64 k, .int .i64 f, .int .i64 l], .int .i64 y] w (YearPost k f l y w) := by
  obtain ⟨W1, hW1⟩ : ∃ W1, W1 = w.alloc (.cells #[.int .i64 k, .int .i64 f, .int .i64 l] 24) := ⟨_, rfl⟩
  have hb0 : Below w.heap.size w W1 := by rw [hW1]; exact (Below.refl w.heap.size w).alloc (Nat.le_refl _) _
  have x0 : W1.cell? ⟨w.heap.size, 0, none⟩ = some (.int .i64 k) := by rw [hW1, World.cell?_alloc_new]; rfl
  have x1 : W1.cell? ⟨w.heap.size, 1, none⟩ = some (.int .i64 f) := by rw [hW1, World.cell?_alloc_new]; rfl
  have x2 : W1.cell? ⟨w.heap.size, 2, none⟩ = some (.int .i64 l) := by rw [hW1, World.cell?_alloc_new]; rfl
  have hT1 := Lib.hid (hT.stay hb0)
  have HC := Check_any k f l W1 hT1.out.1
  clear hT
  by_cases hc : chkC k f l = 0
  · rw [hc] at HC
    have HC := Lib.hid HC
    by_cases hy : y < 1900 ∨ 2199 < y
    · have HP : Hid (∀ w', Below w.heap.size w w' → YearPost k f l y w (.returned (.tuple #[.slice none 0 0, .int .i64 2])) w') := Lib.hid (fun w' h => ⟨[], none, 0, 2, rfl, .inr (.inl ⟨hc, hy, rfl, rfl⟩), .inl rfl, h⟩)
      clear hc
      rcases Int.lt_or_le y 1900 with h | h
      · clear hy
        go_enter Tryd.func15, Tryd.ntmps15
        go_wp2_with fail
        rw [← hW1]
        clear hW1
        refine (HC.out).mono ?_
        rintro e w2 ⟨rfl, hb2⟩
        have hb3 := hb0.trans (hb2.mono hb0.size)
        go_wp2
        go_ret2
        exact HP.out _ hb3
      · have h5 : 2199 < y := by omega
        clear hy
        go_enter Tryd.func15, Tryd.ntmps15
        go_wp2_with fail
        rw [← hW1]
        clear hW1
        refine (HC.out).mono ?_
        rintro e w2 ⟨rfl, hb2⟩
        have hb3 := hb0.trans (hb2.mono hb0.size)
        go_wp2
        go_ret2
        exact HP.out _ hb3
    · have hy1 : 1900 ≤ y := by omega
      have hy2 : y ≤ 2199 := by omega
      have HPE := Lib.hid (fun W hT => periods_any k f l y W hT hc hy1 hy2)
      have HF := Lib.hid hc
      clear hy hc
      go_enter Tryd.func15, Tryd.ntmps15
      go_wp2_with fail
      rw [← hW1]
      clear hW1
      refine (HC.out).mono ?_
      rintro e w2 ⟨rfl, hb2⟩
      have hb3 := hb0.trans (hb2.mono hb0.size)
      have y0 := stay hb2 x0
      have y1 := stay hb2 x1
      have y2 := stay hb2 x2
      go_wp2_with fail
      refine (HPE.out _ (hT1.out.stay hb2)).mono ?_
      rintro e w4 ⟨K, p, c, hIY, rfl, hPI, hb4⟩
      have HIY := Lib.hid hIY
      have HPI := Lib.hid hPI
      have hb5 := hb3.trans (hb4.mono hb3.size)
      clear hIY hPI
      go_wp2
      go_ret2
      exact ⟨K, p, c, 0, rfl, .inr (.inr ⟨HF.out, hy1, hy2, rfl, HIY.out⟩), HPI.out, hb5⟩
  · have HP : Hid (∀ w', Below w.heap.size w w' → YearPost k f l y w (.returned (.tuple #[.slice none 0 0, .int .i64 (chkC k f l)])) w') := Lib.hid (fun w' h => ⟨[], none, 0, _, rfl, .inl ⟨hc, rfl, rfl⟩, .inl rfl, h⟩)
    have e1 : (chkC k f l != 0) = true := by simpa using hc
    clear hc
    generalize chkC k f l = C at *
    have HC := Lib.hid HC
    go_enter Tryd.func15, Tryd.ntmps15
    go_wp2_with fail
    rw [← hW1]
    clear hW1
    refine (HC.out).mono ?_
    rintro e w2 ⟨rfl, hb2⟩
    have hb3 := hb0.trans (hb2.mono hb0.size)
    go_wp2
    go_ret2
    exact HP.out _ hb3

end Go.Proofs.YtfmabjfibjnkoaaDoor
