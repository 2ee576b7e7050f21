/-
  What is proved: the contract of band.taken: what a right table takes, divided and rounded once. Conditions: the table is right; the numbers are not far from 0.
-/
import Derived.Test.YtbflgckmhhmklaaTxDm
import Derived.Test.YtbflgckmhhmklaaShB
import Derived.Laws.Externs
namespace Go.Proofs.Ytbflgckmhhmklaa
open Go Go.RowKit Go.Shelf Go.Proofs
set_option linter.unusedVariables false

attribute [local go_sem] Oper.semAt_some

theorem add64_any (x y : Nat) (W : World) : (callFunc 30 #[.int .u64 (x : Int), .int .u64 (y : Int), .int .u64 0]).run Try.prog W =
    .ok (.value (.tuple #[.int .u64 (((x + y) % 18446744073709551616 : Nat) : Int), .int .u64 (((x + y) / 18446744073709551616 : Nat) : Int)])) W := by
  rw [run_callFunc_extern (e := add64Entry) Try.func30 (by kernel_rfl) (by kernel_rfl) (by kernel_rfl) rfl, run_add64 (x : Int) (y : Int) 0 (by omega) (by omega) (by omega) (by omega)]
  simp [Result.andThen]

theorem one_new (w : World) (v : Value) (T : TypeId) : (w.alloc (.cells #[v] T)).cell? ⟨w.heap.size, 0, none⟩ = some v := by rw [World.cell?_alloc_new]; rfl
theorem one_free (w : World) (v : Value) (T : TypeId) : (w.alloc (.cells #[v] T)).frozen? ⟨w.heap.size, 0, none⟩ = false := by simp [World.frozen?_alloc_mark]
set_option maxRecDepth 100000 in
set_option maxHeartbeats 4000000 in
theorem taken_any (p : Option Addr) (n cp : Nat) (f : Nat → Bd) (x idx of : Int) (hn : n ≤ 64) (hr : Rises f n) (i0 : 1 ≤ idx) (i1 : idx ≤ 400) (o0 : 1 ≤ of) (o1 : of ≤ 400) (x0 : -2305843009213693952 ≤ x) (x1 : x ≤ 2305843009213693952) (w : World) (hf : BdIn w p n f) :
    Calls Try.prog 26 #[.int .i64 x, .int .i64 idx, .int .i64 of, .slice p n cp] w fun e w' => e = .returned (.tuple #[.int .i64 (scaledV f n x idx of), .int .i64 (scaledE f n x idx of)]) ∧ Below w.heap.size w w' := by
  refine (callsIn_wide (n := 3)).1 ?_
  refine callsIn_of_wp_marks Try.func26 rfl trivial ?_ rfl
  simp only [Try.ntmps26, List.size_toArray, List.length_cons, List.length_nil, Nat.reduceAdd, Nat.reduceSub, Array.replicate_succ, Array.replicate_zero, List.push_toArray, List.append_toArray, List.nil_append, List.cons_append]
  gi_wp2_with (refine ⟨trivial, ?_⟩; gi_at_call 28; refine (holds_in _ _ _ _ _ _ _).mono ?_; rintro e w' ⟨rfl, rfl⟩)
  obtain ⟨W1, hW1⟩ : ∃ W1, W1 = (((((w.alloc (.cells #[.int .u64 0] 59)).alloc (.cells #[.int .u64 0] 59)).alloc (.cells #[.int .i64 x] 2)).alloc (.cells #[.int .i64 idx] 3)).alloc (.cells #[.slice p n cp] 23)) := ⟨_, rfl⟩
  have hB0 : Below w.heap.size w W1 := by
    rw [hW1]; exact (((((Below.refl _ w).alloc (Nat.le_refl _) _).alloc (by simp) _).alloc (by simp; omega) _).alloc (by simp; omega) _).alloc (by simp; omega) _
  obtain ⟨A1, hA1⟩ : ∃ A1, A1 = w.alloc (.cells #[.int .u64 0] 59) := ⟨_, rfl⟩
  obtain ⟨A2, hA2⟩ : ∃ A2, A2 = A1.alloc (.cells #[.int .u64 0] 59) := ⟨_, rfl⟩
  obtain ⟨A3, hA3⟩ : ∃ A3, A3 = A2.alloc (.cells #[.int .i64 x] 2) := ⟨_, rfl⟩
  obtain ⟨A4, hA4⟩ : ∃ A4, A4 = A3.alloc (.cells #[.int .i64 idx] 3) := ⟨_, rfl⟩
  have hW1' : W1 = A4.alloc (.cells #[.slice p n cp] 23) := by rw [hW1, hA4, hA3, hA2, hA1]
  have y1 : A1.heap.size = w.heap.size + 1 := by rw [hA1]; simp
  have y2 : A2.heap.size = w.heap.size + 1 + 1 := by rw [hA2]; simp [y1]
  have y3 : A3.heap.size = w.heap.size + 1 + 1 + 1 := by rw [hA3]; simp [y2]
  have y4 : A4.heap.size = w.heap.size + 1 + 1 + 1 + 1 := by rw [hA4]; simp [y3]
  have k2 : Below A2.heap.size A2 W1 := by rw [hW1', hA4, hA3]; exact (((Below.refl _ _).alloc (Nat.le_refl _) _).alloc (by simp) _).alloc (by simp; omega) _
  have k1 : Below A1.heap.size A1 W1 := by
    have : Below A1.heap.size A1 A2 := by rw [hA2]; exact (Below.refl _ _).alloc (Nat.le_refl _) _
    exact this.trans (k2.mono (by omega))
  have k3 : Below A3.heap.size A3 W1 := by rw [hW1', hA4]; exact ((Below.refl _ _).alloc (Nat.le_refl _) _).alloc (by simp) _
  have k4 : Below A4.heap.size A4 W1 := by rw [hW1']; exact (Below.refl _ _).alloc (Nat.le_refl _) _
  have c0 : W1.cell? ⟨w.heap.size, 0, none⟩ = some (.int .u64 0) ∧ W1.frozen? ⟨w.heap.size, 0, none⟩ = false := by
    have h1 : A1.cell? ⟨w.heap.size, 0, none⟩ = some (.int .u64 0) := by rw [hA1]; exact one_new w _ _
    have h2 : A1.frozen? ⟨w.heap.size, 0, none⟩ = false := by rw [hA1]; exact one_free w _ _
    exact ⟨(k1.cell (p := ⟨w.heap.size, 0, none⟩) (by show w.heap.size < _; omega)).trans h1, (k1.frozen (p := ⟨w.heap.size, 0, none⟩) (by show w.heap.size < _; omega)).trans h2⟩
  have c1 : W1.cell? ⟨w.heap.size + 1, 0, none⟩ = some (.int .u64 0) ∧ W1.frozen? ⟨w.heap.size + 1, 0, none⟩ = false := by
    have h1 : A2.cell? ⟨w.heap.size + 1, 0, none⟩ = some (.int .u64 0) := by rw [hA2, ← y1]; exact one_new A1 _ _
    have h2 : A2.frozen? ⟨w.heap.size + 1, 0, none⟩ = false := by rw [hA2, ← y1]; exact one_free A1 _ _
    exact ⟨(k2.cell (p := ⟨w.heap.size + 1, 0, none⟩) (by show w.heap.size + 1 < _; omega)).trans h1, (k2.frozen (p := ⟨w.heap.size + 1, 0, none⟩) (by show w.heap.size + 1 < _; omega)).trans h2⟩
  have c2 : W1.cell? ⟨w.heap.size + 1 + 1, 0, none⟩ = some (.int .i64 x) := by
    have h1 : A3.cell? ⟨w.heap.size + 1 + 1, 0, none⟩ = some (.int .i64 x) := by rw [hA3, ← y2]; exact one_new A2 _ _
    exact (k3.cell (p := ⟨w.heap.size + 1 + 1, 0, none⟩) (by show w.heap.size + 1 + 1 < _; omega)).trans h1
  have c3 : W1.cell? ⟨w.heap.size + 1 + 1 + 1, 0, none⟩ = some (.int .i64 idx) := by
    have h1 : A4.cell? ⟨w.heap.size + 1 + 1 + 1, 0, none⟩ = some (.int .i64 idx) := by rw [hA4, ← y3]; exact one_new A3 _ _
    exact (k4.cell (p := ⟨w.heap.size + 1 + 1 + 1, 0, none⟩) (by show w.heap.size + 1 + 1 + 1 < _; omega)).trans h1
  have c4 : W1.cell? ⟨w.heap.size + 1 + 1 + 1 + 1, 0, none⟩ = some (.slice p n cp) := by rw [hW1', ← y4]; exact one_new A4 _ _
  have hsz : W1.heap.size = w.heap.size + 5 := by rw [hW1']; simp [y4]
  clear k1 k2 k3 k4 hA1 hA2 hA3 hA4 hW1' y1 y2 y3 y4
  have hf1 : BdIn W1 p n f := hf.kp hB0
  have hl : ∀ a, p = some a → 0 < n → (a.block < w.heap.size ∨ (w.heap.size + 2 ≤ a.block ∧ a.block < w.heap.size + 5)) := fun a ha h0 => by
    rcases hf with h | ⟨b, o, hp, hb, -⟩
    · omega
    · rw [ha] at hp; cases hp; exact Or.inl hb
  have HS := holds_stops 2 (by omega) (fun q => q < w.heap.size ∨ (w.heap.size + 2 ≤ q ∧ q < w.heap.size + 5)) (w.heap.size + 1 + 1 + 1 + 1) (w.heap.size + 1 + 1 + 1) (w.heap.size + 1 + 1) p n cp f x idx hn hr i0 i1 x0 x1 W1 (by omega) (by omega) (by omega) hf1 hl c4 c3 c2
  rw [← hW1]
  refine wpIn_rangeFunc_ownF rfl (by omega) (gf := 32) (lb := #[.pointer (some ⟨w.heap.size + 1 + 1 + 1 + 1, 0, none⟩), .pointer (some ⟨w.heap.size + 1 + 1 + 1, 0, none⟩), .pointer (some ⟨w.heap.size + 1 + 1, 0, none⟩)]) rfl trivial (enters_of Try.func32 (by kernel_rfl) rfl)
    HS (fun h k => h.trans k) (fun W l o o' _ hl ho _ => fun q oo v _ hv => cell_kept hv (grownBy_putObj' _ l o') (fun r e => by cases e; exact ⟨_, hl, ho⟩)) (Below.refl _ _) (fun _ => rfl)
    (fun pre W => ((W.cell? ⟨w.heap.size, 0, none⟩ = some (.int .u64 ((sumL pre / 18446744073709551616 : Nat) : Int)) ∧ W.frozen? ⟨w.heap.size, 0, none⟩ = false) ∧ W.cell? ⟨w.heap.size + 1, 0, none⟩ = some (.int .u64 ((sumL pre % 18446744073709551616 : Nat) : Int)) ∧ W.frozen? ⟨w.heap.size + 1, 0, none⟩ = false) ∧ Below w.heap.size w W)
    (fun _ _ _ => False)
    (OwnFrom.and (Own.from (fun s A B row hs hg hr => ⟨⟨cell_kept hs.1.1 hg hr, (frozen_kept hs.1.1 hg hr).trans hs.1.2⟩, cell_kept hs.2.1 hg hr, (frozen_kept hs.2.1 hg hr).trans hs.2.2⟩) _) (ownFrom_below (Nat.le_refl _) (by omega)))
    (fun _ _ _ _ _ hs _ _ => hs)
    ⟨⟨c0, c1⟩, hB0⟩
    (fun y => { tmps := #[.int .i64 x, .int .i64 idx, .int .i64 of, .slice p n cp, undef, undef, undef, undef, .int .i64 0, .int .i64 0, .pointer (some ⟨w.heap.size, 0, none⟩), .pointer (some ⟨w.heap.size + 1, 0, none⟩), .int .i64 y.1.1, .int .i64 y.1.2, undef, undef, undef, undef, undef, undef, undef, undef, .int .i64 x, .int .i64 idx, .slice p n cp, .func (.func 32) #[] #[.pointer (some ⟨w.heap.size + 1 + 1 + 1 + 1, 0, none⟩), .pointer (some ⟨w.heap.size + 1 + 1 + 1, 0, none⟩), .pointer (some ⟨w.heap.size + 1 + 1, 0, none⟩)], .int .i64 y.1.1, .int .i64 y.1.2, undef, undef, undef, undef, undef, undef, undef, undef, undef, undef, undef, undef, undef, undef, undef, undef, undef, undef, undef, undef, undef, undef, undef, undef, undef, undef, undef, undef, undef, undef, undef, undef, undef, undef, undef, undef, undef, undef, undef, undef, undef, undef, undef], defers := [] }) ?assign ?body ?done ?stop
  case assign =>
    intro l y W K hK
    gi_wp2
    exact hK
  case body =>
    rintro l pre ⟨⟨r, h⟩, hy⟩ W ⟨⟨⟨h0, hz0⟩, h1, hz1⟩, hB⟩ hlen
    have hS := sumL_bd pre
    have hSn := sumL_snoc pre ⟨(r, h), hy⟩
    have hP := pr_bd ⟨(r, h), hy⟩
    dsimp only at hy hSn hP ⊢
    obtain ⟨⟨r0, r1⟩, q0, q1⟩ := hy
    obtain ⟨R, rfl⟩ := Int.eq_ofNat_of_zero_le r0
    obtain ⟨G, rfl⟩ := Int.eq_ofNat_of_zero_le q0
    simp only [Int.toNat_natCast] at hSn hP
    have HM := fun W => (Try.bits_Mul64 R G (by omega) (by omega) W).mono (fun _ _ h => (⟨h.1, h.2.symm⟩ : _ ∧ W = _))
    generalize R * G = P at hSn hP HM
    generalize sumL pre = S at *
    have hS2 : S ≤ 64 * (1000000 * 2305843009213693952) := Nat.le_trans hS (Nat.mul_le_mul_right _ (by omega))
    have had := add64_any (S % 18446744073709551616) (P % 18446744073709551616)
    have e1 := hi_add S P
    have e2 := lo_add S P
    have HSn := Lib.hid hSn
    have b1 : S / 18446744073709551616 ≤ 10000000 := by omega
    have b2 : P / 18446744073709551616 ≤ 10000000 := by omega
    have b3 : (S % 18446744073709551616 + P % 18446744073709551616) / 18446744073709551616 ≤ 1 := by omega
    generalize S / 18446744073709551616 = a1 at *
    generalize S % 18446744073709551616 = a2 at *
    generalize P / 18446744073709551616 = a3 at *
    generalize P % 18446744073709551616 = a4 at *
    generalize (a2 + a4) / 18446744073709551616 = a5 at *
    generalize (a2 + a4) % 18446744073709551616 = a6 at *
    have E1 := Lib.hid e1
    have E2 := Lib.hid e2
    have HM' := Lib.hid HM
    clear e1 e2 HM hS hS2 hP hSn hlen
    gi_wp2_with (first | (refine ⟨trivial, ?_⟩; gi_at_call 29; refine (CallsIn.inRound l (callsIn_wide.2 (HM'.out _))).mono ?_; rintro e w' ⟨rfl, rfl⟩) | refine ⟨trivial, ?_⟩)
    have n1 : ∀ (q : Nat) (o : Nat), q ≠ w.heap.size → q ≠ w.heap.size + 1 → ∀ (u v : Value), ((W.setCell ⟨w.heap.size, 0, none⟩ u).setCell ⟨w.heap.size + 1, 0, none⟩ v).cell? ⟨q, o, none⟩ = W.cell? ⟨q, o, none⟩ := fun q o h h' u v =>
      (World.cell?_setCell_other _ _ _ _ (by intro e; injection e with e1; exact h' e1.symm)).trans (World.cell?_setCell_other _ _ _ _ (by intro e; injection e with e1; exact h e1.symm))
    have n2 : ∀ (u v : Value), ((W.setCell ⟨w.heap.size, 0, none⟩ u).setCell ⟨w.heap.size + 1, 0, none⟩ v).cell? ⟨w.heap.size, 0, none⟩ = some u := fun u v =>
      (World.cell?_setCell_other _ _ _ _ (by intro e; injection e with e1; omega)).trans (World.cell?_setCell_same W _ _ h0)
    have n3 : ∀ (u v : Value), ((W.setCell ⟨w.heap.size, 0, none⟩ u).setCell ⟨w.heap.size + 1, 0, none⟩ v).cell? ⟨w.heap.size + 1, 0, none⟩ = some v := fun u v =>
      World.cell?_setCell_same _ _ _ ((World.cell?_setCell_other _ _ _ _ (by intro e; injection e with e1; omega)).trans h1)
    refine ⟨(KeepsOthers.setCell W _ _).trans (KeepsOthers.setCell _ _ _), fun q o v hs hv => (n1 q o (by omega) (by omega) _ _).trans hv, ⟨⟨(n2 _ _).trans ?_, by rw [World.frozen?_setCell, World.frozen?_setCell]; exact hz0⟩, (n3 _ _).trans ?_, by rw [World.frozen?_setCell, World.frozen?_setCell]; exact hz1⟩, (hB.setCell (p := ⟨w.heap.size, 0, none⟩) (Nat.le_refl _) _).setCell (p := ⟨w.heap.size + 1, 0, none⟩) (by show w.heap.size ≤ w.heap.size + 1; omega) _⟩
    · rw [HSn.out, ← E1.out]; simp
    · rw [HSn.out, ← E2.out]
  case done =>
    rintro D ys W hD rfl ⟨⟨⟨h0, hz0⟩, h1, hz1⟩, hB⟩ hK
    have hT := sum_takes hr (x := x) i0 i1 x1
    have hTb := takes_bd hr (x := x) i0
    rw [← hT] at hTb
    obtain ⟨O, rfl⟩ := Int.eq_ofNat_of_zero_le (show 0 ≤ of by omega)
    have hq := round_nat (sumL (upto (pairV f n x idx) (cnt f n x idx))) O (by omega)
    rw [hT] at hq
    have hV : scaledV f n x idx (O : Int) = if roundT (takesV f n x idx) (O : Int) ≤ 1125899906842624 then roundT (takesV f n x idx) (O : Int) else 0 := rfl
    have hE : scaledE f n x idx (O : Int) = if roundT (takesV f n x idx) (O : Int) ≤ 1125899906842624 then 0 else 9 := rfl
    rw [hq] at hV hE
    have hSb : sumL (upto (pairV f n x idx) (cnt f n x idx)) ≤ 1000000 * 2305843009213693952 := by omega
    clear hT hTb hq HS c0 c1 c2 c3 c4 hl hf1 hf hr
    generalize sumL (upto (pairV f n x idx) (cnt f n x idx)) = S at *
    have had := add64_any (S % 18446744073709551616) (O * 500000)
    have e1 : (O : Int) * 1000000 / 2 = ((O * 500000 : Nat) : Int) := by omega
    have s1 : S / 18446744073709551616 + (S % 18446744073709551616 + O * 500000) / 18446744073709551616 = (S + O * 500000) / 18446744073709551616 := by omega
    have s2 : (S % 18446744073709551616 + O * 500000) % 18446744073709551616 = (S + O * 500000) % 18446744073709551616 := by omega
    have s3 := two_words (S + O * 500000)
    have hdb : (S + O * 500000) / 18446744073709551616 < O * 1000000 := by omega
    have HD := fun W => Sh.div_any ((S + O * 500000) / 18446744073709551616) ((S + O * 500000) % 18446744073709551616) (O * 1000000) (by omega) hdb (by omega) W
    rw [s3] at HD
    rw [← s1, ← s2] at HD
    have hQb : (S + O * 500000) / (O * 1000000) ≤ 9223372036854775807 := by
      rw [Nat.div_le_iff_le_mul (by omega)]
      have : O * 1000000 ≥ 1000000 := by omega
      have := Nat.mul_le_mul_left 9223372036854775807 this
      omega
    generalize (S + O * 500000) / (O * 1000000) = Q at *
    generalize (S + O * 500000) % (O * 1000000) = Q2 at *
    have b1 : S / 18446744073709551616 ≤ 10000000 := by omega
    have b3 : (S % 18446744073709551616 + O * 500000) / 18446744073709551616 ≤ 1 := by omega
    simp only [Int.natCast_add, Int.natCast_mul, Int.cast_ofNat_Int] at HD
    clear s1 s2 s3 hdb
    generalize S / 18446744073709551616 = a1 at *
    generalize S % 18446744073709551616 = a2 at *
    generalize (a2 + O * 500000) / 18446744073709551616 = a5 at *
    generalize (a2 + O * 500000) % 18446744073709551616 = a6 at *
    generalize hHf : O * 500000 = Hf at had e1
    have b6 : O ≤ 400 := by omega
    have HD' := Lib.hid HD
    replace hV := Lib.hid hV
    replace hE := Lib.hid hE
    clear hHf HD hSb
    by_cases hQ : Q ≤ 1125899906842624
    case pos =>
      have hv : scaledV f n x idx (O : Int) = (Q : Int) := by rw [hV.out, if_pos (by omega)]
      have he : scaledE f n x idx (O : Int) = 0 := by rw [hE.out, if_pos (by omega)]
      have iq : ¬ (1125899906842624 : Int) < (Q : Int) := by omega
      replace hv := Lib.hid hv
      replace he := Lib.hid he
      clear hV hE
      gi_wp2_with (first | (refine ⟨trivial, ?_⟩; gi_at_call 31; refine (callsIn_wide.2 (HD'.out _)).mono ?_; rintro e w' ⟨rfl, nn, rfl⟩) | refine ⟨trivial, ?_⟩)
      have hK' := (KeepsOthers.setCell W ⟨w.heap.size + 1, 0, none⟩ (.int .u64 a6)).same D _ hK rfl
      refine ⟨by simp, .inl ⟨_, _, rfl, run_takeDeferred hK', ?_⟩⟩
      refine ⟨.tuple #[.int .i64 (Q : Int), .int .i64 0], ?_, by rw [hv.out, he.out], ?_⟩
      · simp [results, Try.f26, go_sem]
      · have hB2 : Below w.heap.size w ((W.setCell ⟨w.heap.size + 1, 0, none⟩ (.int .u64 a6)).drewN nn) := below_drewN (hB.setCell (p := ⟨w.heap.size + 1, 0, none⟩) (by show w.heap.size ≤ w.heap.size + 1; omega) _) nn
        exact hB2.trans (belowK_b (w := w) (Nat.le_refl _) _ D _ _ (by omega) hK' rfl rfl)
    case neg =>
      have hv : scaledV f n x idx (O : Int) = 0 := by rw [hV.out, if_neg (by omega)]
      have he : scaledE f n x idx (O : Int) = 9 := by rw [hE.out, if_neg (by omega)]
      have iq : (1125899906842624 : Int) < (Q : Int) := by omega
      replace hv := Lib.hid hv
      replace he := Lib.hid he
      clear hV hE
      gi_wp2_with (first | (refine ⟨trivial, ?_⟩; gi_at_call 31; refine (callsIn_wide.2 (HD'.out _)).mono ?_; rintro e w' ⟨rfl, nn, rfl⟩) | refine ⟨trivial, ?_⟩)
      have hK' := (KeepsOthers.setCell W ⟨w.heap.size + 1, 0, none⟩ (.int .u64 a6)).same D _ hK rfl
      refine ⟨by simp, .inl ⟨_, _, rfl, run_takeDeferred hK', ?_⟩⟩
      refine ⟨.tuple #[.int .i64 0, .int .i64 9], ?_, by rw [hv.out, he.out], ?_⟩
      · simp [results, Try.f26, go_sem]
      · have hB2 : Below w.heap.size w ((W.setCell ⟨w.heap.size + 1, 0, none⟩ (.int .u64 a6)).drewN nn) := below_drewN (hB.setCell (p := ⟨w.heap.size + 1, 0, none⟩) (by show w.heap.size ≤ w.heap.size + 1; omega) _) nn
        exact hB2.trans (belowK_b (w := w) (Nat.le_refl _) _ D _ _ (by omega) hK' rfl rfl)
  case stop =>
    rintro D c pre W _ _ h _
    exact h.elim

end Go.Proofs.Ytbflgckmhhmklaa
