/-
  What is proved: the contracts of social.Step and Room. Conditions: the code is shorter than 2^62 bytes.
-/
import Derived.Test.YtibbgihcmcnamaaSoG
namespace Go.Proofs.Ytibbgihcmcnamaa
open Go Go.RowKit Go.Lib Go.Proofs
open Ra (fitsB fitsB_iff)
set_option linter.unusedVariables false

/-- What is wrong with a step. -/
def stepE (a b c d : Int) (nm : Bool) (x y z base : Int) : Int :=
  if chkE (rightS a b c d) nm x y z = 0 then (if fitsB base = true then (if rightS (a + base) (b + moreV a b z base) (c + halfV (moreV a b z base) x) (d + halfV (moreV a b z base) y) = true then 0 else 9) else 2) else chkE (rightS a b c d) nm x y z
/-- The sums behind a step. -/
def stepV (a b c d : Int) (nm : Bool) (x y z base : Int) : Int × Int × Int × Int :=
  if stepE a b c d nm x y z base = 0 then (a + base, b + moreV a b z base, c + halfV (moreV a b z base) x, d + halfV (moreV a b z base) y) else (0, 0, 0, 0)
theorem chk_ok {rt nm : Bool} {x y z : Int} (h : chkE rt nm x y z = 0) : rt = true ∧ nm = true ∧ partB x = true ∧ partB y = true ∧ fit0 z = true := by
  unfold chkE schE at h
  split at h
  · rename_i hr
    split at h
    · rename_i hn
      split at h
      · rename_i hp
        simp only [Bool.and_eq_true] at hp
        exact ⟨hr, hn, hp.1.1, hp.1.2, hp.2⟩
      · cases h
    · cases h
  · cases h

set_option maxHeartbeats 4000000 in
set_option maxRecDepth 100000 in
theorem Step_any (a b c d : Int) (s : ByteArray) (x y z base : Int) (hs : s.size ≤ 4611686018427387904) (w : World) :
    Calls Try.prog 11 #[.agg #[.int .i64 a, .int .i64 b, .int .i64 c, .int .i64 d], .agg #[.string s, .int .i64 x, .int .i64 y, .int .i64 z], .int .i64 base] w fun e w' =>
      e = .returned (.tuple #[.agg #[.int .i64 (stepV a b c d (nameL s.data.toList) x y z base).1, .int .i64 (stepV a b c d (nameL s.data.toList) x y z base).2.1, .int .i64 (stepV a b c d (nameL s.data.toList) x y z base).2.2.1, .int .i64 (stepV a b c d (nameL s.data.toList) x y z base).2.2.2], .int .i64 (stepE a b c d (nameL s.data.toList) x y z base)]) ∧ Below w.heap.size w w' := by
  have HC := Lib.hid (fun W => check_any a b c d s x y z hs W)
  have HF := Lib.hid (fun W => Ra.fits_any base W)
  have hV : stepV a b c d (nameL s.data.toList) x y z base = if stepE a b c d (nameL s.data.toList) x y z base = 0 then (a + base, b + moreV a b z base, c + halfV (moreV a b z base) x, d + halfV (moreV a b z base) y) else (0, 0, 0, 0) := rfl
  have hE : stepE a b c d (nameL s.data.toList) x y z base = if chkE (rightS a b c d) (nameL s.data.toList) x y z = 0 then (if fitsB base = true then (if rightS (a + base) (b + moreV a b z base) (c + halfV (moreV a b z base) x) (d + halfV (moreV a b z base) y) = true then 0 else 9) else 2) else chkE (rightS a b c d) (nameL s.data.toList) x y z := rfl
  have hok := fun h => chk_ok (rt := rightS a b c d) (nm := nameL s.data.toList) (x := x) (y := y) (z := z) h
  rw [rightS_iff, partB_iff, partB_iff, fit0_iff] at hok
  generalize hce : chkE (rightS a b c d) (nameL s.data.toList) x y z = ce at HC hE hok
  generalize stepV a b c d (nameL s.data.toList) x y z base = V at hV ⊢
  generalize stepE a b c d (nameL s.data.toList) x y z base = E at hV hE ⊢
  clear hce
  obtain ⟨W0, hW0⟩ : ∃ W0, W0 = ((w.alloc (.cells #[.int .i64 a, .int .i64 b, .int .i64 c, .int .i64 d] 24)).alloc (.cells #[.string s, .int .i64 x, .int .i64 y, .int .i64 z] 27)).alloc (.cells #[.int .i64 0, .int .i64 0, .int .i64 0, .int .i64 0] 24) := ⟨_, rfl⟩
  have hb3 : Below w.heap.size w W0 := by rw [hW0]; exact (((Below.refl w.heap.size w).alloc (Nat.le_refl _) _).alloc (by simp) _).alloc (by simp; omega) _
  have hsz : W0.heap.size = w.heap.size + 3 := by rw [hW0]; simp
  have z1 : (w.alloc (.cells #[.int .i64 a, .int .i64 b, .int .i64 c, .int .i64 d] 24)).heap.size = w.heap.size + 1 := by simp
  have z2 : ((w.alloc (.cells #[.int .i64 a, .int .i64 b, .int .i64 c, .int .i64 d] 24)).alloc (.cells #[.string s, .int .i64 x, .int .i64 y, .int .i64 z] 27)).heap.size = w.heap.size + 2 := by simp
  have h4 : C4 W0 w.heap.size a b c d := by
    rw [hW0]
    exact (C4.new w a b c d _).kp (((Below.refl _ _).alloc (Nat.le_refl _) _).alloc (by simp) _)
  have hS : Sc W0 (w.heap.size + 1) s x y z := by
    rw [hW0, ← z1]
    exact (Sc.new _ s x y z _).kp ((Below.refl _ _).alloc (Nat.le_refl _) _)
  have hR : Rm4 W0 (w.heap.size + 1 + 1) := by
    rw [hW0]
    have := Rm4.new ((w.alloc (.cells #[.int .i64 a, .int .i64 b, .int .i64 c, .int .i64 d] 24)).alloc (.cells #[.string s, .int .i64 x, .int .i64 y, .int .i64 z] 27)) (.int .i64 0) (.int .i64 0) (.int .i64 0) (.int .i64 0) 24
    rw [z2] at this
    exact this
  have KP : Hid (∀ w', Below (w.heap.size + 2) W0 w' → C4 w' w.heap.size a b c d ∧ Sc w' (w.heap.size + 1) s x y z) :=
    Lib.hid (fun w' h => ⟨h4.kb (by omega) h, hS.kb (by omega) h⟩)
  have hge : w.heap.size + 2 ≤ W0.heap.size := by omega
  clear z1 z2
  obtain ⟨c0, c1, c2, c3⟩ := h4
  obtain ⟨s0, s1, s2, s3⟩ := hS
  replace hE := Lib.hid hE
  replace hV := Lib.hid hV
  replace hok := Lib.hid hok
  go_enter Try.func11, Try.ntmps11
  go_upto_region 1 with fail
  rw [← hW0]
  clear hW0
  go_wp2_with fail
  refine (HC.out _).mono ?_
  rintro e w1 ⟨rfl, hb1⟩
  have hk1 : Below (w.heap.size + 2) W0 w1 := hb1.mono hge
  have hr1 : Rm4 w1 (w.heap.size + 1 + 1) := hR.below hb1
  clear c0 c1 c2 c3 s0 s1 s2 s3 hb1 hR
  obtain ⟨⟨c0, c1, c2, c3⟩, s0, s1, s2, s3⟩ := KP.out _ hk1
  obtain ⟨x0, x1, x2, x3, ⟨a0, a1, a2, a3⟩, b0, b1, b2, b3⟩ := hr1.all
  by_cases h0 : ce = 0
  case neg =>
    have d0 : (ce != 0) = true := by simpa using h0
    have hE' : E = ce := by rw [hE.out, if_neg h0]
    have hV' : V = (0, 0, 0, 0) := by rw [hV.out, if_neg (by rw [hE']; exact h0)]
    subst hE' hV'
    clear h0 hE hV hok KP
    have hT : C4 ((((w1.setCell ⟨w.heap.size + 1 + 1, 0, none⟩ (.int .i64 0)).setCell ⟨w.heap.size + 1 + 1, 1, none⟩ (.int .i64 0)).setCell ⟨w.heap.size + 1 + 1, 2, none⟩ (.int .i64 0)).setCell ⟨w.heap.size + 1 + 1, 3, none⟩ (.int .i64 0)) (w.heap.size + 1 + 1) ( 0) ( 0) ( 0) ( 0) := hr1.set _ _ _ _
    have hbF : Below (w.heap.size + 2) W0 ((((w1.setCell ⟨w.heap.size + 1 + 1, 0, none⟩ (.int .i64 0)).setCell ⟨w.heap.size + 1 + 1, 1, none⟩ (.int .i64 0)).setCell ⟨w.heap.size + 1 + 1, 2, none⟩ (.int .i64 0)).setCell ⟨w.heap.size + 1 + 1, 3, none⟩ (.int .i64 0)) := put4_below hk1 (Nat.le_refl _) _ _ _ _
    go_wp2
    generalize ((((w1.setCell ⟨w.heap.size + 1 + 1, 0, none⟩ (.int .i64 0)).setCell ⟨w.heap.size + 1 + 1, 1, none⟩ (.int .i64 0)).setCell ⟨w.heap.size + 1 + 1, 2, none⟩ (.int .i64 0)).setCell ⟨w.heap.size + 1 + 1, 3, none⟩ (.int .i64 0)) = WF at hT hbF ⊢
    obtain ⟨t0, t1, t2, t3⟩ := hT
    exact bodyPost_ret (v := .tuple #[.agg #[.int .i64 0, .int .i64 0, .int .i64 0, .int .i64 0], .int .i64 E]) (by simp [results, Try.results11, go_sem, t0, t1, t2, t3]) rfl ⟨rfl, hb3.trans (hbF.mono (by omega))⟩

  case pos =>
    subst h0
    have hok' := hok.out rfl
    have hE1 := hE.out
    rw [if_pos rfl] at hE1
    clear hE hok
    go_wp2_with fail
    refine (HF.out _).mono ?_
    rintro e w2 ⟨rfl, rfl⟩
    by_cases hf : fitsB base = true
    case neg =>
      rw [if_neg hf] at hE1
      have hV' : V = (0, 0, 0, 0) := by rw [hV.out, if_neg (by rw [hE1]; decide)]
      subst hE1 hV'
      rw [Bool.not_eq_true] at hf
      rw [hf]
      clear hf hV hok' KP
      have hT : C4 ((((w1.setCell ⟨w.heap.size + 1 + 1, 0, none⟩ (.int .i64 0)).setCell ⟨w.heap.size + 1 + 1, 1, none⟩ (.int .i64 0)).setCell ⟨w.heap.size + 1 + 1, 2, none⟩ (.int .i64 0)).setCell ⟨w.heap.size + 1 + 1, 3, none⟩ (.int .i64 0)) (w.heap.size + 1 + 1) ( 0) ( 0) ( 0) ( 0) := hr1.set _ _ _ _
      have hbF : Below (w.heap.size + 2) W0 ((((w1.setCell ⟨w.heap.size + 1 + 1, 0, none⟩ (.int .i64 0)).setCell ⟨w.heap.size + 1 + 1, 1, none⟩ (.int .i64 0)).setCell ⟨w.heap.size + 1 + 1, 2, none⟩ (.int .i64 0)).setCell ⟨w.heap.size + 1 + 1, 3, none⟩ (.int .i64 0)) := put4_below hk1 (Nat.le_refl _) _ _ _ _
      go_wp2
      generalize ((((w1.setCell ⟨w.heap.size + 1 + 1, 0, none⟩ (.int .i64 0)).setCell ⟨w.heap.size + 1 + 1, 1, none⟩ (.int .i64 0)).setCell ⟨w.heap.size + 1 + 1, 2, none⟩ (.int .i64 0)).setCell ⟨w.heap.size + 1 + 1, 3, none⟩ (.int .i64 0)) = WF at hT hbF ⊢
      obtain ⟨t0, t1, t2, t3⟩ := hT
      exact bodyPost_ret (v := .tuple #[.agg #[.int .i64 0, .int .i64 0, .int .i64 0, .int .i64 0], .int .i64 2]) (by simp [results, Try.results11, go_sem, t0, t1, t2, t3]) rfl ⟨rfl, hb3.trans (hbF.mono (by omega))⟩

    case pos =>
      rw [if_pos hf] at hE1
      obtain ⟨f0, f1⟩ := fitsB_iff.1 hf
      rw [hf]
      clear hf
      obtain ⟨⟨⟨r0, r1⟩, ⟨r2, r3⟩, ⟨r4, r5⟩, r6, r7⟩, -, ⟨p0, p1⟩, ⟨q0, q1⟩, o0, o1⟩ := hok'
      have HB := Lib.hid (fun W => behind_any a b c d base s x y z r0 r1 r2 r3 r4 r5 r6 r7 f0 f1 o0 o1 (partB_iff.2 ⟨p0, p1⟩) (partB_iff.2 ⟨q0, q1⟩) W)
      have hV1 := hV.out
      clear hV r0 r1 r2 r3 r4 r5 r6 r7 f0 f1 o0 o1 p0 p1 q0 q1
      generalize a + base = v0 at hV1 hE1 HB
      generalize b + moreV a b z base = v1 at hV1 hE1 HB
      generalize c + halfV (moreV a b z base) x = v2 at hV1 hE1 HB
      generalize d + halfV (moreV a b z base) y = v3 at hV1 hE1 HB
      have HR := Lib.hid (fun W => isRight_any v0 v1 v2 v3 W)
      replace hE1 := Lib.hid hE1
      replace hV1 := Lib.hid hV1
      go_wp2_with fail
      refine (HB.out _).mono ?_
      rintro e w3 ⟨rfl, hb4⟩
      have hk3 : Below (w.heap.size + 2) W0 w3 := hk1.trans (hb4.mono (Nat.le_of_lt hr1.lt))
      have hr3 : Rm4 w3 (w.heap.size + 1 + 1) := hr1.below hb4
      have hgt := hr3.lt
      obtain ⟨u0, u1, u2, u3⟩ := C4.new w3 v0 v1 v2 v3 24
      have hkn : Below (w.heap.size + 2) W0 (w3.alloc (.cells #[.int .i64 v0, .int .i64 v1, .int .i64 v2, .int .i64 v3] 24)) := hk3.alloc (Nat.le_of_lt hgt) _
      have hrn : Rm4 (w3.alloc (.cells #[.int .i64 v0, .int .i64 v1, .int .i64 v2, .int .i64 v3] 24)) (w.heap.size + 1 + 1) := hr3.below ((Below.refl _ _).alloc (Nat.le_refl _) _)
      have h9 : C4 (w3.alloc (.cells #[.int .i64 v0, .int .i64 v1, .int .i64 v2, .int .i64 v3] 24)) w3.heap.size v0 v1 v2 v3 := C4.new w3 v0 v1 v2 v3 24
      clear a0 a1 a2 a3 b0 b1 b2 b3 c0 c1 c2 c3 s0 s1 s2 s3 hr1 hk1 hb4 hr3 hk3 u0 u1 u2 u3
      go_wp2_with fail
      generalize (w3.alloc (.cells #[.int .i64 v0, .int .i64 v1, .int .i64 v2, .int .i64 v3] 24)) = w4 at hkn hrn h9 ⊢
      refine (HR.out _).mono ?_
      rintro e w5 ⟨rfl, hb5⟩
      have hk5 : Below (w.heap.size + 2) W0 w5 := hkn.trans (hb5.mono (Nat.le_of_lt hrn.lt))
      have hr5 : Rm4 w5 (w.heap.size + 1 + 1) := hrn.below hb5
      obtain ⟨k0, k1, k2, k3⟩ := h9.kp hb5
      clear h9 hrn hkn hb5
      obtain ⟨x0, x1, x2, x3, ⟨a0, a1, a2, a3⟩, b0, b1, b2, b3⟩ := hr5.all
      by_cases hr : rightS v0 v1 v2 v3 = true
      case neg =>
        have hE2 := hE1.out
        rw [if_neg hr] at hE2
        have hV' : V = (0, 0, 0, 0) := by rw [hV1.out, if_neg (by rw [hE2]; decide)]
        subst hE2 hV'
        rw [Bool.not_eq_true] at hr
        rw [hr]
        clear hr hV1 hE1 KP
        have hT : C4 ((((w5.setCell ⟨w.heap.size + 1 + 1, 0, none⟩ (.int .i64 0)).setCell ⟨w.heap.size + 1 + 1, 1, none⟩ (.int .i64 0)).setCell ⟨w.heap.size + 1 + 1, 2, none⟩ (.int .i64 0)).setCell ⟨w.heap.size + 1 + 1, 3, none⟩ (.int .i64 0)) (w.heap.size + 1 + 1) ( 0) ( 0) ( 0) ( 0) := hr5.set _ _ _ _
        have hbF : Below (w.heap.size + 2) W0 ((((w5.setCell ⟨w.heap.size + 1 + 1, 0, none⟩ (.int .i64 0)).setCell ⟨w.heap.size + 1 + 1, 1, none⟩ (.int .i64 0)).setCell ⟨w.heap.size + 1 + 1, 2, none⟩ (.int .i64 0)).setCell ⟨w.heap.size + 1 + 1, 3, none⟩ (.int .i64 0)) := put4_below hk5 (Nat.le_refl _) _ _ _ _
        go_wp2
        generalize ((((w5.setCell ⟨w.heap.size + 1 + 1, 0, none⟩ (.int .i64 0)).setCell ⟨w.heap.size + 1 + 1, 1, none⟩ (.int .i64 0)).setCell ⟨w.heap.size + 1 + 1, 2, none⟩ (.int .i64 0)).setCell ⟨w.heap.size + 1 + 1, 3, none⟩ (.int .i64 0)) = WF at hT hbF ⊢
        obtain ⟨t0, t1, t2, t3⟩ := hT
        exact bodyPost_ret (v := .tuple #[.agg #[.int .i64 0, .int .i64 0, .int .i64 0, .int .i64 0], .int .i64 9]) (by simp [results, Try.results11, go_sem, t0, t1, t2, t3]) rfl ⟨rfl, hb3.trans (hbF.mono (by omega))⟩

      case pos =>
        have hE2 := hE1.out
        rw [if_pos hr] at hE2
        have hV' : V = (v0, v1, v2, v3) := by rw [hV1.out, if_pos hE2]
        subst hE2 hV'
        rw [hr]
        clear hr hV1 hE1 KP
        have hT : C4 ((((w5.setCell ⟨w.heap.size + 1 + 1, 0, none⟩ (.int .i64 v0)).setCell ⟨w.heap.size + 1 + 1, 1, none⟩ (.int .i64 v1)).setCell ⟨w.heap.size + 1 + 1, 2, none⟩ (.int .i64 v2)).setCell ⟨w.heap.size + 1 + 1, 3, none⟩ (.int .i64 v3)) (w.heap.size + 1 + 1) ( v0) ( v1) ( v2) ( v3) := hr5.set _ _ _ _
        have hbF : Below (w.heap.size + 2) W0 ((((w5.setCell ⟨w.heap.size + 1 + 1, 0, none⟩ (.int .i64 v0)).setCell ⟨w.heap.size + 1 + 1, 1, none⟩ (.int .i64 v1)).setCell ⟨w.heap.size + 1 + 1, 2, none⟩ (.int .i64 v2)).setCell ⟨w.heap.size + 1 + 1, 3, none⟩ (.int .i64 v3)) := put4_below hk5 (Nat.le_refl _) _ _ _ _
        go_wp2
        generalize ((((w5.setCell ⟨w.heap.size + 1 + 1, 0, none⟩ (.int .i64 v0)).setCell ⟨w.heap.size + 1 + 1, 1, none⟩ (.int .i64 v1)).setCell ⟨w.heap.size + 1 + 1, 2, none⟩ (.int .i64 v2)).setCell ⟨w.heap.size + 1 + 1, 3, none⟩ (.int .i64 v3)) = WF at hT hbF ⊢
        obtain ⟨t0, t1, t2, t3⟩ := hT
        exact bodyPost_ret (v := .tuple #[.agg #[.int .i64 v0, .int .i64 v1, .int .i64 v2, .int .i64 v3], .int .i64 0]) (by simp [results, Try.results11, go_sem, t0, t1, t2, t3]) rfl ⟨rfl, hb3.trans (hbF.mono (by omega))⟩


end Go.Proofs.Ytibbgihcmcnamaa
