/-
  What is proved: SpanCanon returns true for all that it may be handed. Conditions: what came in lies in memory as the frame says.
-/
import Derived.Test.YtjpoldadkhmheaaSpW
import Derived.Test.YtjpoldadkhmheaaSpO
import Derived.Test.YtjpoldadkhmheaaFrameP
namespace Go.Proofs.Ytjpoldadkhmheaa
open Go Go.RowKit Go.Proofs

set_option linter.unusedVariables false
set_option maxHeartbeats 8000000 in
set_option maxRecDepth 100000 in
theorem walkSpanCanon (p : Option Addr) (n cp : Nat) (L : List Sp) (q : Option Addr) (m cq : Nat) (M : List Sp) (w : World) (hp : SpansArg w p n cp L) (hq : SpansArg w q m cq M) :
    Calls Try.prog 6 #[.slice p n cp, .slice q m cq] w fun e w' => e = .returned (.bool true) ∧ Below w.heap.size w w' := by
  obtain ⟨rfl, hsp, h64p, -, hc0p⟩ := hp
  have Hp := Lib.hid hsp
  have Ap := Lib.hid h64p
  obtain ⟨rfl, hsq, h64q, -, hc0q⟩ := hq
  have Hq := Lib.hid hsq
  have Aq := Lib.hid h64q
  clear hsp h64p hsq h64q
  by_cases hbig : 40 < L.length ∨ 40 < M.length
  · have h2 : ((40 : Int) < (L.length : Int)) ∨ (¬ (40 : Int) < (L.length : Int) ∧ (40 : Int) < (M.length : Int)) := by omega
    clear hbig
    rcases h2 with d0 | ⟨d0, d1⟩
    all_goals
      go_enter Try.func6, Try.ntmps6
      go_wp2_with fail
      refine (awake_any _).mono ?_
      rintro e w1 ⟨rfl, hb1⟩
      go_wp2
      go_ret
      exact ⟨rfl, hb1⟩
  have n0 : L.length ≤ 40 := by omega
  have n1 : M.length ≤ 40 := by omega
  clear hbig
  have d0 : ¬ (40 : Int) < (L.length : Int) := by omega
  have d1 : ¬ (40 : Int) < (M.length : Int) := by omega
  go_enter Try.func6, Try.ntmps6
  go_wp2_with fail
  refine (awake_any _).mono ?_
  rintro e w0 ⟨rfl, hb0⟩
  have G0 := Lib.hid (Hp.out.below hb0 (Nat.le_refl _))
  go_wp2_with fail
  refine (Of_set p cp L w0 (by omega) Ap.out G0.out).mono ?_
  rintro e v0 ⟨u, rfl, ⟨K0, p0, c0, rfl, k0⟩, hc0, -⟩
  have HK0 := Lib.hid k0
  clear k0
  have hd0 := hb0.trans (hc0.mono hb0.size)
  have G1 := Lib.hid (Hq.out.below hd0 (Nat.le_refl _))
  go_wp2_with fail
  refine (Of_set q cq M v0 (by omega) Aq.out G1.out).mono ?_
  rintro e v1 ⟨u, rfl, ⟨K1, p1, c1, rfl, k1⟩, hc1, -⟩
  have HK1 := Lib.hid k1
  clear k1
  have hd1 := hd0.trans (hc1.mono hd0.size)
  obtain ⟨W4, hW4⟩ : ∃ W4, W4 = ((v1.alloc (.cells #[.slice p0 K0.length c0] 26)).alloc (.cells #[.slice p1 K1.length c1] 26)) := ⟨_, rfl⟩
  have hb4 : Below v1.heap.size v1 W4 := by rw [hW4]; exact (((Below.refl _ _).alloc (Nat.le_refl _) _).alloc (by simp <;> omega) _)
  have x0 : W4.cell? ⟨v1.heap.size, 0, none⟩ = some (.slice p0 K0.length c0) := by rw [hW4]; rw [World.cell?_alloc_lt _ _ _ (by simp <;> omega)]; exact new_cell _ _ _
  have hz1 : (v1.alloc (.cells #[.slice p0 K0.length c0] 26)).heap.size = v1.heap.size + 1 := by simp
  have x1 : W4.cell? ⟨v1.heap.size + 1, 0, none⟩ = some (.slice p1 K1.length c1) := by rw [hW4]; rw [← hz1]; exact new_cell _ _ _
  have hb7 := hd1.trans (hb4.mono hd1.size)
  have S0 : Hid (IsSet W4 (2 * L.length) (fun d => hasB L d) (.agg #[.slice p0 K0.length c0])) := Lib.hid (IsSet.below ⟨K0, p0, c0, rfl, HK0.out⟩ (hc1.trans (hb4.mono hc1.size)) (Nat.le_refl _))
  have S1 : Hid (IsSet W4 (2 * M.length) (fun d => hasB M d) (.agg #[.slice p1 K1.length c1])) := Lib.hid (IsSet.below ⟨K1, p1, c1, rfl, HK1.out⟩ hb4 (Nat.le_refl _))
  clear HK0 hc0 hd0 G0 HK1 hc1 hd1 G1 hb4 hz1
  have P0 := Lib.hid (Hp.out.below hb7 (Nat.le_refl _))
  have P1 := Lib.hid (Hq.out.below hb7 (Nat.le_refl _))
  go_wp2_with fail
  rw [← hW4]
  clear hW4
  refine (AllK S0.out (by omega)).mono ?_
  rintro e v5 ⟨KL0, ql, cl, rfl, kl, ml, al, ll, sl, hb8⟩
  have hb9 := hb7.trans (hb8.mono hb7.size)
  have y0 := (hb8.cell (World.block_lt_of_cell? _ _ x0)).trans x0
  have y1 := (hb8.cell (World.block_lt_of_cell? _ _ x1)).trans x1
  have S0b := Lib.hid (S0.out.below hb8 (Nat.le_refl _))
  have S1b := Lib.hid (S1.out.below hb8 (Nat.le_refl _))
  have P0b := Lib.hid (P0.out.below hb8 (Nat.le_refl _))
  have P1b := Lib.hid (P1.out.below hb8 (Nat.le_refl _))
  have HL := Lib.hid sl
  have KL := Lib.hid kl
  have ML := Lib.hid ml
  have AL := Lib.hid al
  clear sl kl ml al x0 x1 S0 S1 P0 P1 Hp Hq hb7 hb8 hb0
  have HCA : Hid (∀ k, k < KL0.length → (KL0.getD k (0, 0)).1 < (KL0.getD k (0, 0)).2 ∧ (0 < k → (KL0.getD (k - 1) (0, 0)).2 < (KL0.getD k (0, 0)).1)) := Lib.hid (canon_at KL.out)
  go_wp2
  go_loopw [8] (fun iv wr => ∃ k : Nat, k ≤ KL0.length ∧ iv = .int .i64 k ∧ Below v5.heap.size v5 wr) (fun iv _ => KL0.length - (RowKit.intOf iv).toNat)
  case atStart => exact ⟨0, by omega, rfl, Below.refl _ _⟩
  case round =>
    obtain ⟨k, hk, rfl, hb⟩ := hrel
    by_cases hlt : k < KL0.length
    · have hl := HL.out.below hb (Nat.le_refl _)
      rcases hl with h | ⟨bl, ol, rfl, hc⟩
      · rw [h] at hlt; simp at hlt
      obtain ⟨a1, a2⟩ := hc k hlt
      obtain ⟨g1, g2⟩ := HCA.out k hlt
      have i1 : (k : Int) < (KL0.length : Int) := by omega
      have l1 : (KL0.length : Int) ≤ 100000 := by omega
      cases k with
      | zero =>
        have e1 : decide ((0 : Int) < ((0 : Nat) : Int)) = false := by decide
        generalize KL0.getD 0 (0, 0) = s at *
        obtain ⟨x, y⟩ := s
        dsimp only at a1 a2 g1
        have e2 : decide (y ≤ x) = false := by simp; omega
        clear hc g2
        simp only [Int.natCast_zero, Nat.zero_mul, Nat.add_zero] at *
        go_wp2
        go_quiet (fail)
        go_wp2
        exact ⟨⟨1, by omega, by go_num, Below.drewsN hb _⟩, by simp [RowKit.intOf]; omega⟩
      | succ k =>
        obtain ⟨b1, b2⟩ := hc k (by omega)
        have g3 := g2 (by omega)
        rw [Nat.add_sub_cancel] at g3
        generalize KL0.getD (k + 1) (0, 0) = s at *
        generalize KL0.getD k (0, 0) = t at *
        obtain ⟨x, y⟩ := s
        obtain ⟨x', y'⟩ := t
        dsimp only at a1 a2 b1 b2 g1 g3
        have e1 : decide ((0 : Int) < ((k + 1 : Nat) : Int)) = true := by simp
        have e2 : decide (y ≤ x) = false := by simp; omega
        have e3 : decide (x ≤ y') = false := by simp; omega
        have i2 : ((k + 1 : Nat) : Int) - 1 = (k : Int) := by omega
        have i3 : (0 : Int) < ((k + 1 : Nat) : Int) := by omega
        clear hc g2
        go_wp2
        go_quiet (fail)
        go_wp2
        exact ⟨⟨k + 2, by omega, by go_num, Below.drewsN hb _⟩, by simp [RowKit.intOf]; omega⟩
    · have hbA := hb9.trans (hb.mono hb9.size)
      obtain rfl : k = KL0.length := by omega
      have z0 := (hb.cell (World.block_lt_of_cell? _ _ y0)).trans y0
      have z1 := (hb.cell (World.block_lt_of_cell? _ _ y1)).trans y1
      have P1c := P1b.out.below hb (Nat.le_refl _)
      have P0c := P0b.out.below hb (Nat.le_refl _)
      have S0c := Lib.hid (S0b.out.below hb (Nat.le_refl _))
      have S1c := Lib.hid (S1b.out.below hb (Nat.le_refl _))
      have HLc := Lib.hid (HL.out.below hb (Nat.le_refl _))
      have hbE := (Below.refl wr.heap.size wr).alloc (Nat.le_refl _) (.cells #[] 39)
      have O0 := Lib.hid (World.ownsRow_made (e := 39) (size := 2) (base := wr.heap.size) wr #[] 0 (Nat.le_refl _) (Nat.zero_le _) (by simp))
      have P1d := Lib.hid (src_of (P1c.below hbE (Nat.le_refl _)) hc0q)
      have P0d := Lib.hid P0c
      clear hb hb9 y0 y1 S0b S1b P0b P1b P0c P1c HL hk hlt HCA
      go_wp2_with (at_builtin; first | (refine app_src_arm Try.underlying22 infoSpan rfl (by omega) (by omega) wr.heap.size _ _ 0 [] O0.out q M.length cq (spC M) (spC_len M) P1d.out spC_one (by omega) (by simp) rfl _ _ rfl rfl rfl ?_; intro v6 w6 ho6 hg6; have hb6 : Below wr.heap.size wr w6 := hbE.grown hg6 (by simp) (fun k hk => by simp [Value.ownBlock] at hk; omega); have O6 := Lib.hid ho6; have P0e := Lib.hid (src_of (P0d.out.below hb6 (Nat.le_refl _)) hc0p); have hz6 := hb6.size; clear ho6 hg6) | (refine app_src_arm Try.underlying22 infoSpan rfl (by omega) (by omega) wr.heap.size _ _ (0 + M.length) _ O6.out p L.length cp (spC L) (spC_len L) P0e.out spC_one (by omega) hz6 rfl _ _ rfl rfl rfl ?_; intro v7 w7 ho7 hg7))
      have hb7 : Below wr.heap.size wr w7 := hb6.grown hg7 hz6 (fun k hk => (O6.out.lt k hk).1)
      obtain ⟨p7, c7, rfl, -⟩ := own_slice ho7
      have en : 0 + M.length + L.length = (M ++ L).length := by simp
      rw [en] at ho7 ⊢
      have s7 : SpansIn w7 p7 (M ++ L) := SpansIn.of_own (n := (M ++ L).length) (c := c7) (base := wr.heap.size) (E := 39) (by rw [spC_app]; simpa using ho7)
      have HO7 := Lib.hid (Of_set p7 c7 (M ++ L) w7 (by simp; omega) (fun s hs => by rcases List.mem_append.1 hs with h | h; exact Aq.out s h; exact Ap.out s h) s7)
      clear ho7 hg7 s7 O6 O0 P0d P0e P1d en hb6
      go_wp2_with fail
      refine (HO7.out).mono ?_
      rintro e w8 ⟨u, rfl, ⟨K2, p2, c2, rfl, k2⟩, hb8, -⟩
      obtain ⟨W5, hW5⟩ : ∃ W5, W5 = w8.alloc (.cells #[.slice p2 K2.length c2] 26) := ⟨_, rfl⟩
      have hb9 : Below w8.heap.size w8 W5 := by rw [hW5]; exact (Below.refl _ _).alloc (Nat.le_refl _) _
      have hbC := hb8.trans (hb9.mono hb8.size)
      have hbB := hb7.trans (hbC.mono hb7.size)
      have x0 := (hbB.cell (World.block_lt_of_cell? _ _ z0)).trans z0
      have x1 := (hbB.cell (World.block_lt_of_cell? _ _ z1)).trans z1
      obtain ⟨g2, hg2⟩ : ∃ g2, g2 = w8.heap.size := ⟨_, rfl⟩
      have x2 : W5.cell? ⟨g2, 0, none⟩ = some (.slice p2 K2.length c2) := by rw [hW5, hg2]; exact new_cell _ _ _
      have S0 := Lib.hid (S0c.out.below hbB (Nat.le_refl _))
      have S1 := Lib.hid (S1c.out.below hbB (Nat.le_refl _))
      have S2 : Hid (IsSet W5 (2 * (M.length + L.length)) (fun d => hasB M d || hasB L d) (.agg #[.slice p2 K2.length c2])) := Lib.hid ((IsSet.below (w := w8) ⟨K2, p2, c2, rfl, k2⟩ hb9 (Nat.le_refl _)).congr (fun d => hasB_app M L d) (by simp))
      have HL5 := Lib.hid (HLc.out.below hbB (Nat.le_refl _))
      have HOL := Lib.hid (fun W (h : SpansIn W ql KL0) => (Of_set ql cl KL0 W (by omega) AL.out h).mono (fun e w' hp => hp.congr (Q := fun d => hasB L d) (fun d => hasB_of ML.out d)))
      have hbF := hbA.trans (hbB.mono hbA.size)
      clear z0 z1 S0c S1c HLc k2 HO7 hb7 hb8 hb9 hbC hbB hbA AL
      go_wp2
      rw [← hW5, ← hg2]
      clear hW5 hg2
      go_region_held3 (fun w' => (w'.cell? ⟨v1.heap.size, 0, none⟩ = some (.slice p0 K0.length c0) ∧ w'.cell? ⟨v1.heap.size + 1, 0, none⟩ = some (.slice p1 K1.length c1) ∧ w'.cell? ⟨g2, 0, none⟩ = some (.slice p2 K2.length c2)) ∧ Below W5.heap.size W5 w') (first | exact kp3 x0 x1 x2 kb_drew | exact kp3 x0 x1 x2 (by assumption)) (first | (go_at_call 12; refine (HOL.out _ (by first | assumption | exact HL5.out.kp (by assumption))).mono ?_; rintro e wx ⟨vx, rfl, hsx, hbx, -⟩; have hkx : Below W5.heap.size W5 wx := kb_call hbx (by assumption)) | (go_at_call 15; refine (AllNoK (by first | assumption | exact IsSet.below (by assumption) (by assumption) (Nat.le_refl _)) (by omega) (fun d => Bool.and_not_self (hasB L d))).mono ?_; rintro e wx ⟨qx, cx, rfl, hbx⟩; have hkx : Below W5.heap.size W5 wx := kb_call hbx (by assumption)) | (go_at_call 16; refine (UnionK (by first | assumption | exact IsSet.below (by assumption) (by assumption) (Nat.le_refl _) | exact S0.out.kp (by assumption) | exact S1.out.kp (by assumption) | exact S2.out.kp (by assumption)) (by first | assumption | exact IsSet.below (by assumption) (by assumption) (Nat.le_refl _) | exact S0.out.kp (by assumption) | exact S1.out.kp (by assumption) | exact S2.out.kp (by assumption)) (by omega) (by omega)).mono ?_; rintro e wx ⟨vx, rfl, hsx, hbx, -⟩; have hkx : Below W5.heap.size W5 wx := kb_call hbx (by assumption); try (have hlx := SpansIn.below (by assumption) hbx (Nat.le_refl _))) | (go_at_call 18; refine (MeetK (by first | assumption | exact IsSet.below (by assumption) (by assumption) (Nat.le_refl _) | exact S0.out.kp (by assumption) | exact S1.out.kp (by assumption) | exact S2.out.kp (by assumption)) (by first | assumption | exact IsSet.below (by assumption) (by assumption) (Nat.le_refl _) | exact S0.out.kp (by assumption) | exact S1.out.kp (by assumption) | exact S2.out.kp (by assumption)) (by omega) (by omega)).mono ?_; rintro e wx ⟨vx, rfl, hsx, hbx, -⟩; have hkx : Below W5.heap.size W5 wx := kb_call hbx (by assumption); try (have hlx := SpansIn.below (by assumption) hbx (Nat.le_refl _))) | (go_at_call 19; refine (MinusK (by first | assumption | exact IsSet.below (by assumption) (by assumption) (Nat.le_refl _) | exact S0.out.kp (by assumption) | exact S1.out.kp (by assumption) | exact S2.out.kp (by assumption)) (by first | assumption | exact IsSet.below (by assumption) (by assumption) (Nat.le_refl _) | exact S0.out.kp (by assumption) | exact S1.out.kp (by assumption) | exact S2.out.kp (by assumption)) (by omega) (by omega)).mono ?_; rintro e wx ⟨vx, rfl, hsx, hbx, -⟩; have hkx : Below W5.heap.size W5 wx := kb_call hbx (by assumption); try (have hlx := SpansIn.below (by assumption) hbx (Nat.le_refl _))) | (go_at_call 15; refine (AllK (by first | assumption | exact IsSet.below (by assumption) (by assumption) (Nat.le_refl _) | exact S0.out.kp (by assumption) | exact S1.out.kp (by assumption) | exact S2.out.kp (by assumption)) (by omega)).mono ?_; rintro e wx ⟨Kx, qx, cx, rfl, kx, mx, ax, lx, sx, hbx⟩; have hkx : Below W5.heap.size W5 wx := kb_call hbx (by assumption); try (have hlx := SpansIn.below (by assumption) hbx (Nat.le_refl _))) | (go_at_call 14; refine (SameK (by assumption) (by first | assumption | exact HL5.out.kp (by assumption)) (by omega) (canon_eq (by assumption) (by first | assumption | exact KL.out) (by assumption) (by first | assumption | exact ML.out) (fun d => by first | rfl | (cases hasB L d <;> cases hasB M d <;> rfl)))).mono ?_; rintro e wx ⟨rfl, hbx⟩; have hkx : Below W5.heap.size W5 wx := kb_call hbx (by assumption)))
      go_wp2
      go_ret
      exact ⟨rfl, hbF.trans (Below.mono (by assumption) hbF.size)⟩

end Go.Proofs.Ytjpoldadkhmheaa
