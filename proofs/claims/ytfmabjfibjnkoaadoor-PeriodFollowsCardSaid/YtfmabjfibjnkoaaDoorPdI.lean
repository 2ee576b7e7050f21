/-
  What is proved: the contracts of the document's own Own and Next. Conditions: as each says.
-/
import Derived.Test.YtfmabjfibjnkoaaDoorPdH
import Derived.Test.YtfmabjfibjnkoaaDoorPdZ
namespace Go.Proofs.YtfmabjfibjnkoaaDoor
open Go Go.RowKit Go.Proofs
set_option linter.unusedVariables false

theorem nat_idx {I n : Int} (h1 : 1 ≤ I) (h2 : I ≤ n) : ∃ j : Nat, I = ((j + 1 : Nat) : Int) ∧ (j : Int) < n := ⟨(I - 1).toNat, by omega, by omega⟩

set_option maxHeartbeats 4000000 in
set_option maxRecDepth 100000 in
theorem rOwn_any (k f l y i n a b p : Int) (w : World) (hc : chkC k f l = 0) (hi1 : -9223372036854775808 ≤ i) : Calls Tryd.prog 35 #[.agg #[.int .i64 k, .int .i64 f, .int .i64 l], .agg #[.int .i64 y, .int .i64 i, .int .i64 n, .int .i64 a, .int .i64 b, .int .i64 p]] w (HasPost k f l y i n a b p w) := by
  have HO : Hid (∀ w', Below w.heap.size w w' → ¬ OwnP k f l y i n a b p → HasPost k f l y i n a b p w (.returned (.bool false)) w') := Lib.hid (fun w' hb h => ⟨false, rfl, ⟨fun h => by simp at h, fun hh => absurd hh.2 h⟩, hb⟩)
  have HT : Hid (∀ w', Below w.heap.size w w' → OwnP k f l y i n a b p → HasPost k f l y i n a b p w (.returned (.bool true)) w') := Lib.hid (fun w' hb h => ⟨true, rfl, ⟨fun _ => ⟨hc, h⟩, fun _ => rfl⟩, hb⟩)
  obtain ⟨W1, hW1, hb0, hc0, hp0, hz⟩ := calper w k f l y i n a b p 39 48
  have HC0 := Lib.hid hc0
  have HP0 := Lib.hid hp0
  obtain ⟨x0, x1, x2⟩ := hc0
  obtain ⟨p0, p1, p2, p3, p4, p5⟩ := hp0
  rcases Int.lt_or_le y 1900 with h1 | h1
  · have HN : Hid (¬ OwnP k f l y i n a b p) := Lib.hid (fun h => by have := h.1; omega)
    clear hW1 hc hi1 hz x0 x1 x2 p0 p1 p2 p3 p4 p5
    go_enter Tryd.func35, Tryd.ntmps35
    go_wp2
    go_ret
    refine HO.out _ ?_ HN.out
    exact ((Below.refl w.heap.size w).alloc (Nat.le_refl _) _).alloc (by simp) _
  rcases Int.lt_or_le 2199 y with h2 | h2
  · have HN : Hid (¬ OwnP k f l y i n a b p) := Lib.hid (fun h => by have := h.2.1; omega)
    clear hW1 hc hi1 hz x0 x1 x2 p0 p1 p2 p3 p4 p5
    go_enter Tryd.func35, Tryd.ntmps35
    go_wp2
    go_ret
    refine HO.out _ ?_ HN.out
    exact ((Below.refl w.heap.size w).alloc (Nat.le_refl _) _).alloc (by simp) _
  have HY := Lib.hid (rYear_any k f l y W1 hc h1 h2)
  have g1 : ¬ y < 1900 := by omega
  have g2 : ¬ 2199 < y := by omega
  have HV : Hid (1900 ≤ y ∧ y ≤ 2199) := Lib.hid ⟨h1, h2⟩
  clear hc h1 h2 hz
  go_enter Tryd.func35, Tryd.ntmps35
  go_wp2_with fail
  rw [← hW1]
  clear hW1
  refine (HY.out).mono ?_
  rintro e w2 ⟨K, q, c, hK, rfl, hP, hb2⟩
  have hKl := hK.len
  obtain ⟨N, hN⟩ : ∃ N, N = K.length := ⟨_, rfl⟩
  have HN := Lib.hid hN
  have HK := Lib.hid hK
  rw [← hN] at hKl hP ⊢
  have hb4 := hb0.trans (hb2.mono hb0.size)
  obtain ⟨u0, u1, u2, u3, u4, u5⟩ := HP0.out.stay hb2
  clear hK hN hb0 hb2 x0 x1 x2 p0 p1 p2 p3 p4 p5 HC0 HP0 HY g1 g2
  rcases Int.lt_or_le i 1 with h3 | h3
  · have h4 : ¬ 1 ≤ i := by omega
    have h5 : decide (1 ≤ i) = false := decide_eq_false h4
    have HX : Hid (¬ OwnP k f l y i n a b p) := Lib.hid (fun h => by obtain ⟨-, -, K', hK', j, hj, e, -⟩ := h; omega)
    clear hP
    go_wp2
    go_quiet (fail)
    go_wp2
    go_ret
    exact HO.out _ (below_drewN hb4 _) HX.out
  rcases Int.lt_or_le (N : Int) i with h4 | h4
  · have h5 : ¬ i ≤ (N : Int) := by omega
    have h7 : decide (i ≤ (N : Int)) = false := decide_eq_false h5
    have HX : Hid (¬ OwnP k f l y i n a b p) := Lib.hid (fun h => by
      obtain ⟨-, -, K', hK', j, hj, e, -⟩ := h
      obtain rfl := HK.out.one hK'
      have := HN.out
      omega)
    clear hP
    go_wp2
    go_quiet (fail)
    go_wp2
    go_ret
    exact HO.out _ (below_drewN hb4 _) HX.out
  obtain ⟨j, hj, hjn⟩ := nat_idx h3 h4
  have hjK : j < K.length := by have := HN.out; omega
  rcases hP with h | ⟨bb, o, rfl, hcc⟩
  · rw [h] at hjK; simp at hjK
  obtain ⟨v0, v1, v2, v3, v4, v5⟩ := hcc j hjK
  rw [← hj] at v1
  have i1 : IntKind.i64.wrap (i - 1) = j := by rw [IntWalk.i64_in _ (by omega)]; omega
  have HX : Hid (OwnP k f l y i n a b p ↔ n = (N : Int) ∧ (K.getD j (0, 0)).1 = a ∧ (K.getD j (0, 0)).2 = b ∧ payV (K.getD j (0, 0)).2 l = p) := Lib.hid ⟨fun h => by
      obtain ⟨-, -, K', hK', j', hj', e, e2, e3, e4⟩ := h
      obtain rfl := HK.out.one hK'
      obtain rfl : j = j' := by omega
      rw [e3]
      have := HN.out
      exact ⟨by omega, rfl, rfl, e4.symm⟩, fun ⟨e1, e2, e3, e4⟩ => ⟨HV.out.1, HV.out.2, K, HK.out, j, hjK, hj, by rw [e1, HN.out], by rw [← e2, ← e3], by rw [← e3, e4]⟩⟩
  have h6 : 1 ≤ i := h3
  clear hcc hj
  generalize payV (K.getD j (0, 0)).2 l = PV at *
  generalize (K.getD j (0, 0)).1 = AA at *
  generalize (K.getD j (0, 0)).2 = BB at *
  have e9 : (N : Int) = n ∨ (N : Int) ≠ n := by omega

  by_cases g2 : (N : Int) = n
  rotate_left
  · have e0 : ((N : Int) == n) = false := by simpa using g2
    have HZ : Hid (¬ OwnP k f l y i n a b p) := Lib.hid (fun h => g2 ((HX.out.1 h).1.symm))
    clear g2 HX
    clear e9
    go_wp2
    go_quiet (fail)
    go_wp2
    go_ret
    exact HO.out _ (below_drewN hb4 _) HZ.out
  have HG2 := Lib.hid g2
  rw [g2] at v2
  clear g2
  by_cases g3 : AA = a
  rotate_left
  · have e0 : (AA == a) = false := by simpa using g3
    have HZ : Hid (¬ OwnP k f l y i n a b p) := Lib.hid (fun h => g3 ((HX.out.1 h).2.1))
    clear g3 HX
    clear e9
    go_wp2
    go_quiet (fail)
    go_wp2
    go_ret
    exact HO.out _ (below_drewN hb4 _) HZ.out
  replace g3 := g3.symm
  subst g3
  by_cases g4 : BB = b
  rotate_left
  · have e0 : (BB == b) = false := by simpa using g4
    have HZ : Hid (¬ OwnP k f l y i n a b p) := Lib.hid (fun h => g4 ((HX.out.1 h).2.2.1))
    clear g4 HX
    clear e9
    go_wp2
    go_quiet (fail)
    go_wp2
    go_ret
    exact HO.out _ (below_drewN hb4 _) HZ.out
  replace g4 := g4.symm
  subst g4
  by_cases g5 : PV = p
  rotate_left
  · have e0 : (PV == p) = false := by simpa using g5
    have HZ : Hid (¬ OwnP k f l y i n a b p) := Lib.hid (fun h => g5 ((HX.out.1 h).2.2.2))
    clear g5 HX
    clear e9
    go_wp2
    go_quiet (fail)
    go_wp2
    go_ret
    exact HO.out _ (below_drewN hb4 _) HZ.out
  replace g5 := g5.symm
  subst g5
  have HZ : Hid (OwnP k f l y i n a b p) := Lib.hid (HX.out.2 ⟨HG2.out.symm, rfl, rfl, rfl⟩)
  clear HX HG2
  clear e9
  go_wp2
  go_quiet (fail)
  go_wp2
  go_ret
  exact HT.out _ (below_drewN hb4 _) HZ.out


theorem find_codes {k f l d y i n a b p e : Int} (h : FindR k f l d y i n a b p e) (hc : chkC k f l = 0) (hd : inB d = true) : e = 0 ∨ (e = 6 ∧ y = 0 ∧ i = 0 ∧ n = 0 ∧ a = 0 ∧ b = 0 ∧ p = 0) := by
  rcases h with ⟨h1, -⟩ | ⟨-, h1, -⟩ | ⟨-, -, -, h1, h2⟩ | ⟨-, -, -, -, -, h1⟩
  · exact absurd hc h1
  · rw [hd] at h1; cases h1
  · exact .inr ⟨h1, h2⟩
  · exact .inl h1
theorem find_out {k f l d : Int} (hc : chkC k f l = 0) (hd : inB d = false) : FindR k f l d 0 0 0 0 0 0 15 := .inr (.inl ⟨hc, hd, rfl, rfl, rfl, rfl, rfl, rfl, rfl⟩)

set_option maxHeartbeats 4000000 in
set_option maxRecDepth 100000 in
theorem rNext_any (k f l y i n a b p : Int) (w : World) (hi1 : -9223372036854775808 ≤ i) : Calls Tryd.prog 21 #[.agg #[.int .i64 k, .int .i64 f, .int .i64 l], .agg #[.int .i64 y, .int .i64 i, .int .i64 n, .int .i64 a, .int .i64 b, .int .i64 p]] w (NextPost k f l y i n a b p w) := by
  obtain ⟨W0, hW0, hb00, hc00, hp00, hz⟩ := calper w k f l y i n a b p 39 48
  obtain ⟨W1, hW1⟩ : ∃ W1, W1 = W0.alloc (.cells #[.int .i64 0, .int .i64 0, .int .i64 0, .int .i64 0, .int .i64 0, .int .i64 0] 48) := ⟨_, rfl⟩
  have hbx : Below W0.heap.size W0 W1 := by rw [hW1]; exact (Below.refl _ _).alloc (Nat.le_refl _) _
  have hb0 := hb00.trans (hbx.mono hb00.size)
  have hR1 : Res6 W1 (w.heap.size + 2) := by rw [hW1, ← hz]; exact res6_new _ _
  have HC0 := Lib.hid (hc00.stay hbx)
  have HP0 := Lib.hid (hp00.stay hbx)
  rw [hW0] at hW1
  have HC := rCheck_any k f l W1
  have HF := Lib.hid (fun W => rFind_any k f l b W)
  obtain ⟨x0, x1, x2⟩ := HC0.out
  obtain ⟨p0, p1, p2, p3, p4, p5⟩ := HP0.out
  clear hz hW0 hb00 hc00 hp00 hbx
  by_cases hc : chkC k f l = 0
  · rw [hc] at HC
    have HC := Lib.hid HC
    have HCZ := Lib.hid hc
    have HH := Lib.hid (fun W => rOwn_any k f l y i n a b p W hc hi1)
    clear hc
    go_enter Tryd.func21, Tryd.ntmps21
    go_wp2_with fail
    rw [← hW1]
    clear hW1
    refine (HC.out).mono ?_
    rintro e w2 ⟨rfl, hb2⟩
    have hR2 := hR1.below hb2
    have HC2 := Lib.hid (HC0.out.stay hb2)
    have HP2 := Lib.hid (HP0.out.stay hb2)
    have hb3 := hb0.trans (hb2.mono hb0.size)
    clear x0 x1 x2 p0 p1 p2 p3 p4 p5 hR1 hb0 hb2 HC0 HP0 HC
    obtain ⟨x0, x1, x2⟩ := HC2.out
    obtain ⟨p0, p1, p2, p3, p4, p5⟩ := HP2.out
    go_wp2_with fail
    refine (HH.out _).mono ?_
    rintro e w4 ⟨r, rfl, hr, hb4⟩
    have hR4 := hR2.below hb4
    have HC4 := Lib.hid (HC2.out.stay hb4)
    have HP4 := Lib.hid (HP2.out.stay hb4)
    have hb5 := hb3.trans (hb4.mono hb3.size)
    clear x0 x1 x2 p0 p1 p2 p3 p4 p5 hR2 hb3 hb4 HC2 HP2 HH
    obtain ⟨x0, x1, x2⟩ := HC4.out
    obtain ⟨p0, p1, p2, p3, p4, p5⟩ := HP4.out
    cases r with
    | false =>
      have HO : Hid (∀ w', Below w.heap.size w w' → NextPost k f l y i n a b p w (.returned (.tuple #[.agg #[.int .i64 0, .int .i64 0, .int .i64 0, .int .i64 0, .int .i64 0, .int .i64 0], .int .i64 6])) w') := Lib.hid (fun w' hb => ⟨0, 0, 0, 0, 0, 0, 6, rfl, .inr (.inl ⟨HCZ.out, fun h => (by have := hr.2 h; simp at this), rfl, rfl, rfl, rfl, rfl, rfl, rfl⟩), hb⟩)
      clear hr x0 x1 x2 p0 p1 p2 p3 p5
      obtain ⟨⟨a0, a1, a2, a3, a4, a5⟩, ⟨b0, b1, b2, b3, b4, b5⟩⟩ := hR4.all
      obtain ⟨q0, q1, q2, q3, q4, q5⟩ := hR4.set (.int .i64 0) (.int .i64 0) (.int .i64 0) (.int .i64 0) (.int .i64 0) (.int .i64 0)
      have hbF := set6_below hb5 (show w.heap.size ≤ w.heap.size + 2 by omega) (.int .i64 0) (.int .i64 0) (.int .i64 0) (.int .i64 0) (.int .i64 0) (.int .i64 0)
      go_wp2
      exact bodyPost_ret (v := .tuple #[.agg #[.int .i64 0, .int .i64 0, .int .i64 0, .int .i64 0, .int .i64 0, .int .i64 0], .int .i64 6]) (by simp [results, Tryd.results21, go_sem, q0, q1, q2, q3, q4, q5]) rfl (HO.out _ hbF)
    | true =>
      have HOW := Lib.hid (hr.1 rfl)
      clear hr
      rcases Int.lt_or_le b 84006 with hlt | hge
      rotate_left
      · have HO : Hid (∀ w', Below w.heap.size w w' → NextPost k f l y i n a b p w (.returned (.tuple #[.agg #[.int .i64 0, .int .i64 0, .int .i64 0, .int .i64 0, .int .i64 0, .int .i64 0], .int .i64 6])) w') := Lib.hid (fun w' hb => ⟨0, 0, 0, 0, 0, 0, 6, rfl, .inr (.inr (.inl ⟨HOW.out, ⟨_, _, _, _, _, _, _, find_out HCZ.out (inB_no (.inr (by omega))), by decide⟩, rfl, rfl, rfl, rfl, rfl, rfl, rfl⟩)), hb⟩)
        obtain ⟨⟨a0, a1, a2, a3, a4, a5⟩, ⟨b0, b1, b2, b3, b4, b5⟩⟩ := hR4.all
        obtain ⟨q0, q1, q2, q3, q4, q5⟩ := hR4.set (.int .i64 0) (.int .i64 0) (.int .i64 0) (.int .i64 0) (.int .i64 0) (.int .i64 0)
        have hbF := set6_below hb5 (show w.heap.size ≤ w.heap.size + 2 by omega) (.int .i64 0) (.int .i64 0) (.int .i64 0) (.int .i64 0) (.int .i64 0) (.int .i64 0)
        go_wp2
        exact bodyPost_ret (v := .tuple #[.agg #[.int .i64 0, .int .i64 0, .int .i64 0, .int .i64 0, .int .i64 0, .int .i64 0], .int .i64 6]) (by simp [results, Tryd.results21, go_sem, q0, q1, q2, q3, q4, q5]) rfl (HO.out _ hbF)
      have hin : Hid (inB b = true) := Lib.hid (inB_yes (by have := HOW.out.len; omega) (by omega))
      have hng : ¬ 84006 ≤ b := by omega
      go_wp2_with fail
      refine (HF.out _).mono ?_
      rintro e w6 ⟨y', i', n', a', b', p', E, rfl, hR, hb6⟩
      have hR6 := hR4.below hb6
      have hb7 := hb5.trans (hb6.mono hb5.size)
      have HR := Lib.hid hR
      have HO : Hid (∀ w', Below w.heap.size w w' → NextPost k f l y i n a b p w (.returned (.tuple #[.agg #[.int .i64 y', .int .i64 i', .int .i64 n', .int .i64 a', .int .i64 b', .int .i64 p'], .int .i64 E])) w') := Lib.hid (fun w' hb => by
        rcases find_codes HR.out HCZ.out hin.out with rfl | ⟨rfl, rfl, rfl, rfl, rfl, rfl, rfl⟩
        · exact ⟨y', i', n', a', b', p', 0, rfl, .inr (.inr (.inr ⟨HOW.out, HR.out, rfl⟩)), hb⟩
        · exact ⟨0, 0, 0, 0, 0, 0, 6, rfl, .inr (.inr (.inl ⟨HOW.out, ⟨_, _, _, _, _, _, _, HR.out, by decide⟩, rfl, rfl, rfl, rfl, rfl, rfl, rfl⟩)), hb⟩)
      clear x0 x1 x2 p0 p1 p2 p3 p4 p5 hR4 hb5 hb6 HC4 HP4 HF hR
      obtain ⟨⟨a0, a1, a2, a3, a4, a5⟩, ⟨b0, b1, b2, b3, b4, b5⟩⟩ := hR6.all
      obtain ⟨q0, q1, q2, q3, q4, q5⟩ := hR6.set (.int .i64 y') (.int .i64 i') (.int .i64 n') (.int .i64 a') (.int .i64 b') (.int .i64 p')
      have hbF := set6_below hb7 (show w.heap.size ≤ w.heap.size + 2 by omega) (.int .i64 y') (.int .i64 i') (.int .i64 n') (.int .i64 a') (.int .i64 b') (.int .i64 p')
      go_wp2
      exact bodyPost_ret (v := .tuple #[.agg #[.int .i64 y', .int .i64 i', .int .i64 n', .int .i64 a', .int .i64 b', .int .i64 p'], .int .i64 E]) (by simp [results, Tryd.results21, go_sem, q0, q1, q2, q3, q4, q5]) rfl (HO.out _ hbF)
  · have HO : Hid (∀ w', Below w.heap.size w w' → NextPost k f l y i n a b p w (.returned (.tuple #[.agg #[.int .i64 0, .int .i64 0, .int .i64 0, .int .i64 0, .int .i64 0, .int .i64 0], .int .i64 (chkC k f l)])) w') := Lib.hid (fun w' hb => ⟨0, 0, 0, 0, 0, 0, _, rfl, .inl ⟨hc, rfl, rfl, rfl, rfl, rfl, rfl, rfl⟩, hb⟩)
    have e1 : (chkC k f l != 0) = true := by simpa using hc
    clear hc
    generalize chkC k f l = C at *
    have HC := Lib.hid HC
    go_enter Tryd.func21, Tryd.ntmps21
    go_wp2_with fail
    rw [← hW1]
    clear hW1
    refine (HC.out).mono ?_
    rintro e w2 ⟨rfl, hb2⟩
    have hR2 := hR1.below hb2
    have hb3 := hb0.trans (hb2.mono hb0.size)
    clear x0 x1 x2 p0 p1 p2 p3 p4 p5 hR1 hb0 hb2
    obtain ⟨⟨a0, a1, a2, a3, a4, a5⟩, ⟨b0, b1, b2, b3, b4, b5⟩⟩ := hR2.all
    obtain ⟨q0, q1, q2, q3, q4, q5⟩ := hR2.set (.int .i64 0) (.int .i64 0) (.int .i64 0) (.int .i64 0) (.int .i64 0) (.int .i64 0)
    have hbF := set6_below hb3 (show w.heap.size ≤ w.heap.size + 2 by omega) (.int .i64 0) (.int .i64 0) (.int .i64 0) (.int .i64 0) (.int .i64 0) (.int .i64 0)
    go_wp2
    exact bodyPost_ret (v := .tuple #[.agg #[.int .i64 0, .int .i64 0, .int .i64 0, .int .i64 0, .int .i64 0, .int .i64 0], .int .i64 C]) (by simp [results, Tryd.results21, go_sem, q0, q1, q2, q3, q4, q5]) rfl (HO.out _ hbF)

end Go.Proofs.YtfmabjfibjnkoaaDoor
