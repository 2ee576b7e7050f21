/-
  What is proved: the walk of the statement SocialParts: the call returns true. Conditions: what came in is as the frame says.
-/
import Derived.Test.YtibbgihcmcnamaaSoL
import Derived.Deep.QuietTactic
import Derived.BigQuiet
namespace Go.Proofs.Ytibbgihcmcnamaa
open Go Go.RowKit Go.Lib Go.Proofs
open Ra (fitsB fitsB_iff)
set_option linter.unusedVariables false

/-- What a step that is right is. -/
theorem step_is {a b c d : Int} {nm : Bool} {x y z base : Int} (h : stepE a b c d nm x y z base = 0) :
    stepV a b c d nm x y z base = (a + base, b + moreV a b z base, c + halfV (moreV a b z base) x, d + halfV (moreV a b z base) y) ∧ chkE (rightS a b c d) nm x y z = 0 ∧ fitsB base = true ∧ rightS (a + base) (b + moreV a b z base) (c + halfV (moreV a b z base) x) (d + halfV (moreV a b z base) y) = true := by
  have hV : stepV a b c d nm x y z base = (a + base, b + moreV a b z base, c + halfV (moreV a b z base) x, d + halfV (moreV a b z base) y) := by
    unfold stepV; rw [if_pos h]
  refine ⟨hV, ?_⟩
  unfold stepE at h
  by_cases hc : chkE (rightS a b c d) nm x y z = 0
  · rw [if_pos hc] at h
    by_cases hf : fitsB base = true
    · rw [if_pos hf] at h
      by_cases hr : rightS (a + base) (b + moreV a b z base) (c + halfV (moreV a b z base) x) (d + halfV (moreV a b z base) y) = true
      · exact ⟨hc, hf, hr⟩
      · rw [if_neg hr] at h; exact absurd h (by decide)
    · rw [if_neg hf] at h; exact absurd h (by decide)
  · rw [if_neg hc] at h; exact absurd h hc
theorem more_bd (a b z base : Int) (h0 : 0 ≤ b) (hz : z ≤ 1125899906842624) (hz0 : 0 ≤ z) : 0 ≤ moreV a b z base ∧ moreV a b z base ≤ 1125899906842624 := by
  unfold moreV roomV ceilV; split <;> omega
theorem more_parts (a b z p q : Int) (hp : 0 ≤ p) (hq : 0 ≤ q) : moreV a b z p + moreV (a + p) (b + moreV a b z p) z q = moreV a b z (p + q) := by
  unfold moreV roomV
  generalize ceilV z = k
  omega
theorem half_parts (m n r : Int) (h0 : 0 ≤ m) (h1 : 0 ≤ n) (h2 : m + n ≤ 1125899906842624) (hr : partB r = true) : halfV m r + halfV n r - halfV (m + n) r ≤ 1 ∧ -1 ≤ halfV m r + halfV n r - halfV (m + n) r := by
  obtain ⟨-, e1, -, -⟩ := half_bd m r h0 (by omega) hr
  obtain ⟨-, e2, -, -⟩ := half_bd n r h1 (by omega) hr
  obtain ⟨-, e3, -, -⟩ := half_bd (m + n) r (by omega) h2 hr
  rw [e1, e2, e3]
  have k1 := Ra.rnd_half 1000000 (m * r) (by omega)
  have k2 := Ra.rnd_half 1000000 (n * r) (by omega)
  have k3 := Ra.rnd_half 1000000 ((m + n) * r) (by omega)
  have e : (m + n) * r = m * r + n * r := Int.add_mul m n r
  rw [e] at k3 ⊢
  generalize m * r = M at *
  generalize n * r = N at *
  generalize Ra.rnd 1 1000000 M = u at *
  generalize Ra.rnd 1 1000000 N = v at *
  generalize Ra.rnd 1 1000000 (M + N) = w at *
  have : ((1000000 : Nat) : Int) = 1000000 := rfl
  rw [this] at k1 k2 k3
  omega
/-- A base in two parts. -/
theorem parts_facts {a b c d : Int} {nm : Bool} {x y z p q : Int} (hp : 0 ≤ p) (hq : 0 ≤ q) (h1 : stepE a b c d nm x y z p = 0)
    (h2 : stepE (stepV a b c d nm x y z p).1 (stepV a b c d nm x y z p).2.1 (stepV a b c d nm x y z p).2.2.1 (stepV a b c d nm x y z p).2.2.2 nm x y z q = 0) (h3 : stepE a b c d nm x y z (p + q) = 0) :
    let u := stepV (stepV a b c d nm x y z p).1 (stepV a b c d nm x y z p).2.1 (stepV a b c d nm x y z p).2.2.1 (stepV a b c d nm x y z p).2.2.2 nm x y z q
    let v := stepV a b c d nm x y z (p + q)
    u.1 = v.1 ∧ u.2.1 = v.2.1 ∧ (u.2.2.1 - v.2.2.1 ≤ 1 ∧ -1 ≤ u.2.2.1 - v.2.2.1) ∧ u.2.2.2 - v.2.2.2 ≤ 1 ∧ -1 ≤ u.2.2.2 - v.2.2.2 := by
  obtain ⟨e1, k1, f1, r1⟩ := step_is h1
  rw [e1] at h2 ⊢
  dsimp only at h2 ⊢
  obtain ⟨e2, k2, f2, r2⟩ := step_is h2
  obtain ⟨e3, k3, f3, r3⟩ := step_is h3
  rw [e2, e3]
  dsimp only
  obtain ⟨g0, -, hx, hy, hz⟩ := chk_ok k1
  have i0 := rightS_iff.1 g0
  have i1 := rightS_iff.1 r1
  have i2 := rightS_iff.1 r3
  have iz := fit0_iff.1 hz
  obtain ⟨m0, m1⟩ := more_bd a b z p i0.2.1.1 iz.2 iz.1
  obtain ⟨n0, n1⟩ := more_bd (a + p) (b + moreV a b z p) z q (by omega) iz.2 iz.1
  have hs := more_parts a b z p q hp hq
  have hb := more_bd a b z (p + q) i0.2.1.1 iz.2 iz.1
  rw [← hs] at hb ⊢
  have w1 := half_parts (moreV a b z p) (moreV (a + p) (b + moreV a b z p) z q) x m0 n0 hb.2 hx
  have w2 := half_parts (moreV a b z p) (moreV (a + p) (b + moreV a b z p) z q) y m0 n0 hb.2 hy
  refine ⟨by omega, by omega, ⟨by omega, by omega⟩, by omega, by omega⟩
theorem stepV_bd (a b c d : Int) (nm : Bool) (x y z base : Int) : ((-1125899906842624 ≤ (stepV a b c d nm x y z base).1 ∧ (stepV a b c d nm x y z base).1 ≤ 1125899906842624) ∧ (0 ≤ (stepV a b c d nm x y z base).2.1 ∧ (stepV a b c d nm x y z base).2.1 ≤ 1125899906842624) ∧ (0 ≤ (stepV a b c d nm x y z base).2.2.1 ∧ (stepV a b c d nm x y z base).2.2.1 ≤ 1125899906842624) ∧ 0 ≤ (stepV a b c d nm x y z base).2.2.2 ∧ (stepV a b c d nm x y z base).2.2.2 ≤ 1125899906842624) := by
  by_cases h : stepE a b c d nm x y z base = 0
  · obtain ⟨e, -, -, r⟩ := step_is h
    rw [e]
    exact rightS_iff.1 r
  · unfold stepV
    rw [if_neg h]
    decide

set_option maxHeartbeats 8000000 in
set_option maxRecDepth 100000 in
theorem walkSocialParts (a b c d : Int) (s : ByteArray) (x y z p q : Int) (w : World) (hs : s.size ≤ maxLen) (hp : (Lit.int .i64 p).wf = true) (hq : (Lit.int .i64 q).wf = true) :
    Calls Try.prog 9 #[.agg #[.int .i64 a, .int .i64 b, .int .i64 c, .int .i64 d], .agg #[.string s, .int .i64 x, .int .i64 y, .int .i64 z], .int .i64 p, .int .i64 q] w fun e w' => e = .returned (.bool true) ∧ Below w.heap.size w w' := by
  unfold maxLen at hs
  have HT1 := Lib.hid (fun (hs : s.size ≤ 300) W => Step_any a b c d s x y z p (by omega) W)
  have HT2 := Lib.hid (fun (hs : s.size ≤ 300) W => Step_any (stepV a b c d (nameL s.data.toList) x y z p).1 (stepV a b c d (nameL s.data.toList) x y z p).2.1 (stepV a b c d (nameL s.data.toList) x y z p).2.2.1 (stepV a b c d (nameL s.data.toList) x y z p).2.2.2 s x y z q (by omega) W)
  have HT3 := Lib.hid (fun (hs : s.size ≤ 300) W => Step_any a b c d s x y z (p + q) (by omega) W)
  have HF := fun h0 h1 => @parts_facts a b c d (nameL s.data.toList) x y z p q h0 h1
  have B1 := stepV_bd a b c d (nameL s.data.toList) x y z p
  have B2 := stepV_bd (stepV a b c d (nameL s.data.toList) x y z p).1 (stepV a b c d (nameL s.data.toList) x y z p).2.1 (stepV a b c d (nameL s.data.toList) x y z p).2.2.1 (stepV a b c d (nameL s.data.toList) x y z p).2.2.2 (nameL s.data.toList) x y z q
  have B3 := stepV_bd a b c d (nameL s.data.toList) x y z (p + q)
  dsimp only at HF
  generalize stepV (stepV a b c d (nameL s.data.toList) x y z p).1 (stepV a b c d (nameL s.data.toList) x y z p).2.1 (stepV a b c d (nameL s.data.toList) x y z p).2.2.1 (stepV a b c d (nameL s.data.toList) x y z p).2.2.2 (nameL s.data.toList) x y z q = V2 at HT2 HF B2
  generalize stepE (stepV a b c d (nameL s.data.toList) x y z p).1 (stepV a b c d (nameL s.data.toList) x y z p).2.1 (stepV a b c d (nameL s.data.toList) x y z p).2.2.1 (stepV a b c d (nameL s.data.toList) x y z p).2.2.2 (nameL s.data.toList) x y z q = E2 at HT2 HF
  generalize stepV a b c d (nameL s.data.toList) x y z p = V1 at HT1 HT2 B1
  generalize stepE a b c d (nameL s.data.toList) x y z p = E1 at HT1 HF
  generalize stepV a b c d (nameL s.data.toList) x y z (p + q) = V3 at HT3 HF B3
  generalize stepE a b c d (nameL s.data.toList) x y z (p + q) = E3 at HT3 HF
  obtain ⟨v10, v11, v12, v13⟩ := V1
  obtain ⟨v20, v21, v22, v23⟩ := V2
  obtain ⟨v30, v31, v32, v33⟩ := V3
  dsimp only at HT1 HT2 HT3 HF B1 B2 B3
  replace HF := Lib.hid HF
  clear B1
  obtain ⟨-, -, ⟨m0, m1⟩, m2, m3⟩ := B2
  obtain ⟨-, -, ⟨n0, n1⟩, n2, n3⟩ := B3
  obtain ⟨W0, hW0⟩ : ∃ W0, W0 = (w.alloc (.cells #[.int .i64 a, .int .i64 b, .int .i64 c, .int .i64 d] 24)).alloc (.cells #[.string s, .int .i64 x, .int .i64 y, .int .i64 z] 27) := ⟨_, rfl⟩
  have hb0 : Below w.heap.size w W0 := by rw [hW0]; exact ((Below.refl w.heap.size w).alloc (Nat.le_refl _) _).alloc (by simp) _
  have z1 : (w.alloc (.cells #[.int .i64 a, .int .i64 b, .int .i64 c, .int .i64 d] 24)).heap.size = w.heap.size + 1 := by simp
  have h4 : C4 W0 w.heap.size a b c d := by
    rw [hW0]
    exact (C4.new w a b c d _).kp ((Below.refl _ _).alloc (Nat.le_refl _) _)
  have hS : Sc W0 (w.heap.size + 1) s x y z := by
    rw [hW0, ← z1]
    exact Sc.new _ s x y z _
  clear z1
  have hsz : W0.heap.size = w.heap.size + 1 + 1 := by rw [hW0]; simp
  replace hsz := Lib.hid hsz
  have H4 := Lib.hid h4
  have HS := Lib.hid hS
  clear h4 hS
  go_enter Try.func9, Try.ntmps9
  go_upto_region 1 with fail
  rw [← hW0]
  clear hW0
  go_wp2_with fail
  refine (awake_any _).mono ?_
  rintro e w1 ⟨rfl, hb1⟩
  have hk1 := hb0.trans (hb1.mono hb0.size)
  have HS1 := Lib.hid (HS.out.kp hb1)
  have H41 := Lib.hid (H4.out.kp hb1)
  obtain ⟨s0, s1, s2, s3⟩ := HS1.out
  obtain ⟨c0, c1, c2, c3⟩ := H41.out
  clear HS H4 hb1
  by_cases hl : s.size ≤ 300
  case neg =>
    have i1 : ¬ (s.size : Int) ≤ 300 := by omega
    have i2 : decide ((300 : Int) < (s.size : Int)) = true := decide_eq_true (by omega)
    go_wp2
    go_ret
    exact ⟨rfl, hk1⟩
  case pos =>
    have i1 : (s.size : Int) ≤ 300 := by omega
    have i2 : decide ((300 : Int) < (s.size : Int)) = false := decide_eq_false (by omega)
    have hways : (decide (p < 0) = true) ∨ (decide (p < 0) = false ∧ decide (q < 0) = true) ∨ (decide (p < 0) = false ∧ decide (q < 0) = false ∧ decide (1099511627776 < p) = true) ∨ (decide (p < 0) = false ∧ decide (q < 0) = false ∧ decide (1099511627776 < p) = false ∧ decide (1099511627776 < q) = true) ∨ (decide (p < 0) = false ∧ decide (q < 0) = false ∧ decide (1099511627776 < p) = false ∧ decide (1099511627776 < q) = false) := by
      simp only [decide_eq_true_eq, decide_eq_false_iff_not]; omega
    rcases hways with d1 | ⟨d1, d2⟩ | ⟨d1, d2, d3⟩ | ⟨d1, d2, d3, d4⟩ | ⟨d1, d2, d3, d4⟩
    · go_wp2
      go_ret
      exact ⟨rfl, hk1⟩
    · go_wp2
      go_ret
      exact ⟨rfl, hk1⟩
    · go_wp2
      go_ret
      exact ⟨rfl, hk1⟩
    · go_wp2
      go_ret
      exact ⟨rfl, hk1⟩
    have p0 : 0 ≤ p := by have := of_decide_eq_false d1; omega
    have q0 : 0 ≤ q := by have := of_decide_eq_false d2; omega
    have p1 : p ≤ 1099511627776 := by have := of_decide_eq_false d3; omega
    have q1 : q ≤ 1099511627776 := by have := of_decide_eq_false d4; omega
    replace HF := Lib.hid (HF.out p0 q0)
    go_wp2_with fail
    refine (HT1.out hl _).mono ?_
    rintro e w2 ⟨rfl, hb2⟩
    have hk2 := hk1.trans (hb2.mono hk1.size)
    have hA1 : C4 (w2.alloc (.cells #[.int .i64 v10, .int .i64 v11, .int .i64 v12, .int .i64 v13] 24)) w2.heap.size v10 v11 v12 v13 := C4.new _ _ _ _ _ _
    have hb3 : Below w2.heap.size w2 (w2.alloc (.cells #[.int .i64 v10, .int .i64 v11, .int .i64 v12, .int .i64 v13] 24)) := (Below.refl _ _).alloc (Nat.le_refl _) _
    have HS3 := Lib.hid ((HS1.out.kp hb2).kp hb3)
    have H43 := Lib.hid ((H41.out.kp hb2).kp hb3)
    have hk3 := hk2.trans (hb3.mono hk2.size)
    clear c0 c1 c2 c3 s0 s1 s2 s3 HS1 H41 hb2 hb3  
    go_upto_region 6 with fail
    generalize (w2.alloc (.cells #[.int .i64 v10, .int .i64 v11, .int .i64 v12, .int .i64 v13] 24)) = W1 at hA1 hk3 HS3 H43  ⊢
    generalize w2.heap.size = g1 at hA1 ⊢
    have HA1 := Lib.hid hA1
    clear hA1
    obtain ⟨s0, s1, s2, s3⟩ := HS3.out
    obtain ⟨c0, c1, c2, c3⟩ := H43.out
    obtain ⟨u0, u1, u2, u3⟩ := HA1.out
    go_wp2_with fail
    refine (HT2.out hl _).mono ?_
    rintro e w4 ⟨rfl, hb4⟩
    have hk4 := hk3.trans (hb4.mono hk3.size)
    have hA2 : C4 (w4.alloc (.cells #[.int .i64 v20, .int .i64 v21, .int .i64 v22, .int .i64 v23] 24)) w4.heap.size v20 v21 v22 v23 := C4.new _ _ _ _ _ _
    have hb5 : Below w4.heap.size w4 (w4.alloc (.cells #[.int .i64 v20, .int .i64 v21, .int .i64 v22, .int .i64 v23] 24)) := (Below.refl _ _).alloc (Nat.le_refl _) _
    have HS5 := Lib.hid ((HS3.out.kp hb4).kp hb5)
    have H45 := Lib.hid ((H43.out.kp hb4).kp hb5)
    have HB21 := Lib.hid ((HA1.out.kp hb4).kp hb5)
    have hk5 := hk4.trans (hb5.mono hk4.size)
    clear c0 c1 c2 c3 s0 s1 s2 s3 HS3 H43 hb4 hb5 HA1 u0 u1 u2 u3
    go_upto_region 7 with fail
    generalize (w4.alloc (.cells #[.int .i64 v20, .int .i64 v21, .int .i64 v22, .int .i64 v23] 24)) = W2 at hA2 hk5 HS5 H45 HB21 ⊢
    generalize w4.heap.size = g2 at hA2 ⊢
    have HA2 := Lib.hid hA2
    clear hA2
    obtain ⟨s0, s1, s2, s3⟩ := HS5.out
    obtain ⟨c0, c1, c2, c3⟩ := H45.out
    go_wp2_with fail
    refine (HT3.out hl _).mono ?_
    rintro e w6 ⟨rfl, hb6⟩
    have hk6 := hk5.trans (hb6.mono hk5.size)
    have hA3 : C4 (w6.alloc (.cells #[.int .i64 v30, .int .i64 v31, .int .i64 v32, .int .i64 v33] 24)) w6.heap.size v30 v31 v32 v33 := C4.new _ _ _ _ _ _
    have hb7 : Below w6.heap.size w6 (w6.alloc (.cells #[.int .i64 v30, .int .i64 v31, .int .i64 v32, .int .i64 v33] 24)) := (Below.refl _ _).alloc (Nat.le_refl _) _
    have HS7 := Lib.hid ((HS5.out.kp hb6).kp hb7)
    have H47 := Lib.hid ((H45.out.kp hb6).kp hb7)
    have HB31 := Lib.hid ((HB21.out.kp hb6).kp hb7)
    have HB32 := Lib.hid ((HA2.out.kp hb6).kp hb7)
    have hk7 := hk6.trans (hb7.mono hk6.size)
    clear c0 c1 c2 c3 s0 s1 s2 s3 HS5 H45 hb6 hb7 HB21 HA2 
    go_upto_region 8 with fail
    generalize (w6.alloc (.cells #[.int .i64 v30, .int .i64 v31, .int .i64 v32, .int .i64 v33] 24)) = W3 at hA3 hk7 HS7 H47 HB31 HB32 ⊢
    generalize w6.heap.size = g3 at hA3 ⊢
    have HA3 := Lib.hid hA3
    clear hA3
    obtain ⟨s0, s1, s2, s3⟩ := HS7.out
    obtain ⟨c0, c1, c2, c3⟩ := H47.out
    clear HB31 c0 c1 c2 c3 s0 s1 s2 s3 HS7 H47
    by_cases h1 : E1 = 0
    case neg =>
      have dE : (E1 != 0) = true := by simpa using h1
      clear h1
      go_wp2
      go_ret
      exact ⟨rfl, hk7⟩
    case pos =>
    have dE1 : (E1 != 0) = false := by simpa using h1
    by_cases h2 : E2 = 0
    case neg =>
      have dE : (E2 != 0) = true := by simpa using h2
      clear h2 h1
      go_wp2
      go_ret
      exact ⟨rfl, hk7⟩
    case pos =>
    have dE2 : (E2 != 0) = false := by simpa using h2
    by_cases h3 : E3 = 0
    case neg =>
      have dE : (E3 != 0) = true := by simpa using h3
      clear h3 h2 h1
      go_wp2
      go_ret
      exact ⟨rfl, hk7⟩
    case pos =>
    have dE3 : (E3 != 0) = false := by simpa using h3
    obtain ⟨f0, f1, ⟨f2, f3⟩, f4, f5⟩ := HF.out h1 h2 h3
    obtain ⟨u0, u1, u2, u3⟩ := HA3.out
    obtain ⟨t0, t1, t2, t3⟩ := HB32.out
    subst f0 f1
    clear HF h1 h2 h3
    go_upto_region 10 with fail
    go_quiet (fail)
    have q0 : (v20 == v20) = true := by simp
    have q1 : (v21 == v21) = true := by simp
    have q2 : decide (v22 - v32 ≤ 1) = true := decide_eq_true f2
    have q3 : decide (-1 ≤ v22 - v32) = true := decide_eq_true f3
    have q4 : decide (v23 - v33 ≤ 1) = true := decide_eq_true f4
    have q5 : decide (-1 ≤ v23 - v33) = true := decide_eq_true f5
    go_wp2
    go_ret
    exact ⟨rfl, ⟨hk7.os, hk7.tape, hk7.output, hk7.size, hk7.block⟩⟩

end Go.Proofs.Ytibbgihcmcnamaa
