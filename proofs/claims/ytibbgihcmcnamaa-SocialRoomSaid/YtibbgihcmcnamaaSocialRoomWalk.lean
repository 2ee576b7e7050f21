/-
  What is proved: the walk of the statement SocialRoom: the call returns true. Conditions: what came in is as the frame says.
-/
import Derived.Test.YtibbgihcmcnamaaSoL
namespace Go.Proofs.Ytibbgihcmcnamaa
open Go Go.RowKit Go.Lib Go.Proofs
open Ra (fitsB fitsB_iff)
set_option linter.unusedVariables false

theorem RoomV_bd (a b c d : Int) (nm : Bool) (x y z : Int) : 0 ≤ RoomV a b c d nm x y z ∧ RoomV a b c d nm x y z ≤ 1125899906842624 := by
  unfold RoomV
  split
  · rename_i h
    obtain ⟨h1, -, -, -, h2⟩ := chk_ok h
    have := rightS_iff.1 h1
    have := fit0_iff.1 h2
    unfold roomV ceilV
    split <;> omega
  · omega
/-- What a step that is right says of the room. -/
theorem room_facts {a b c d : Int} {nm : Bool} {x y z base : Int} (h : stepE a b c d nm x y z base = 0) :
    (0 ≤ b ∧ b ≤ 1125899906842624) ∧ (0 ≤ (stepV a b c d nm x y z base).2.1 ∧ (stepV a b c d nm x y z base).2.1 ≤ 1125899906842624) ∧ 0 ≤ (stepV a b c d nm x y z base).2.1 - b ∧ (stepV a b c d nm x y z base).2.1 - b ≤ RoomV a b c d nm x y z ∧
    RoomV (stepV a b c d nm x y z base).1 (stepV a b c d nm x y z base).2.1 (stepV a b c d nm x y z base).2.2.1 (stepV a b c d nm x y z base).2.2.2 nm x y z = RoomV a b c d nm x y z - ((stepV a b c d nm x y z base).2.1 - b) ∧
    (z = 0 ∨ (stepV a b c d nm x y z base).1 < z ∨ RoomV a b c d nm x y z - ((stepV a b c d nm x y z base).2.1 - b) = 0) := by
  have hV : stepV a b c d nm x y z base = (a + base, b + moreV a b z base, c + halfV (moreV a b z base) x, d + halfV (moreV a b z base) y) := by
    unfold stepV; rw [if_pos h]
  have h' := h
  unfold stepE at h'
  by_cases hc : chkE (rightS a b c d) nm x y z = 0
  · rw [if_pos hc] at h'
    by_cases hf : fitsB base = true
    · rw [if_pos hf] at h'
      by_cases hr : rightS (a + base) (b + moreV a b z base) (c + halfV (moreV a b z base) x) (d + halfV (moreV a b z base) y) = true
      · obtain ⟨k1, k2, k3, k4, k5⟩ := chk_ok hc
        have hc2 : chkE (rightS (a + base) (b + moreV a b z base) (c + halfV (moreV a b z base) x) (d + halfV (moreV a b z base) y)) nm x y z = 0 := by
          rw [hr]; rw [k1] at hc; exact hc
        rw [hV]
        dsimp only
        have e1 : RoomV a b c d nm x y z = roomV b z := by unfold RoomV; rw [if_pos hc]
        have e2 : RoomV (a + base) (b + moreV a b z base) (c + halfV (moreV a b z base) x) (d + halfV (moreV a b z base) y) nm x y z = roomV (b + moreV a b z base) z := by unfold RoomV; rw [if_pos hc2]
        rw [e1, e2]
        have r1 := rightS_iff.1 k1
        have r2 := rightS_iff.1 hr
        have r3 := fit0_iff.1 k5
        clear hc hc2 e1 e2 hV h h' hr k1
        have hm : moreV a b z base = max 0 (min (a + base - b) (roomV b z)) := rfl
        generalize moreV a b z base = m at hm r2 ⊢
        generalize halfV m x = p at r2
        generalize halfV m y = q at r2
        unfold roomV at hm ⊢
        unfold ceilV at hm ⊢
        by_cases hz : z = 0
        · rw [if_pos hz] at hm ⊢
          omega
        · rw [if_neg hz] at hm ⊢
          omega
      · rw [if_neg hr] at h'; exact absurd h' (by decide)
    · rw [if_neg hf] at h'; exact absurd h' (by decide)
  · rw [if_neg hc] at h'; exact absurd h' hc

set_option maxHeartbeats 8000000 in
set_option maxRecDepth 100000 in
theorem walkSocialRoom (a b c d : Int) (s : ByteArray) (x y z base : Int) (w : World) (hs : s.size ≤ maxLen) (_ : (Lit.int .i64 base).wf = true) :
    Calls Try.prog 4 #[.agg #[.int .i64 a, .int .i64 b, .int .i64 c, .int .i64 d], .agg #[.string s, .int .i64 x, .int .i64 y, .int .i64 z], .int .i64 base] w fun e w' => e = .returned (.bool true) ∧ Below w.heap.size w w' := by
  unfold maxLen at hs
  have HT := Lib.hid (fun (hs : s.size ≤ 300) W => Step_any a b c d s x y z base (by omega) W)
  have HM := Lib.hid (fun (hs : s.size ≤ 300) W => Room_any a b c d s x y z (by omega) W)
  have HM2 := Lib.hid (fun (hs : s.size ≤ 300) W => Room_any (stepV a b c d (nameL s.data.toList) x y z base).1 (stepV a b c d (nameL s.data.toList) x y z base).2.1 (stepV a b c d (nameL s.data.toList) x y z base).2.2.1 (stepV a b c d (nameL s.data.toList) x y z base).2.2.2 s x y z (by omega) W)
  have HF := @room_facts a b c d (nameL s.data.toList) x y z base
  obtain ⟨R0, R1⟩ := RoomV_bd a b c d (nameL s.data.toList) x y z
  generalize stepV a b c d (nameL s.data.toList) x y z base = V at HT HF HM2
  generalize stepE a b c d (nameL s.data.toList) x y z base = E at HT HF
  generalize RoomV a b c d (nameL s.data.toList) x y z = R at HM HF R0 R1
  obtain ⟨v0, v1, v2, v3⟩ := V
  dsimp only at HT HF HM2
  generalize RoomV v0 v1 v2 v3 (nameL s.data.toList) x y z = R2 at HM2 HF
  replace HF := Lib.hid HF
  obtain ⟨W0, hW0⟩ : ∃ W0, W0 = (w.alloc (.cells #[.int .i64 a, .int .i64 b, .int .i64 c, .int .i64 d] 24)).alloc (.cells #[.string s, .int .i64 x, .int .i64 y, .int .i64 z] 27) := ⟨_, rfl⟩
  have hb0 : Below w.heap.size w W0 := by rw [hW0]; exact ((Below.refl w.heap.size w).alloc (Nat.le_refl _) _).alloc (by simp) _
  have z1 : (w.alloc (.cells #[.int .i64 a, .int .i64 b, .int .i64 c, .int .i64 d] 24)).heap.size = w.heap.size + 1 := by simp
  have h4 : C4 W0 w.heap.size a b c d := by
    rw [hW0]
    exact (C4.new w a b c d _).kp ((Below.refl _ _).alloc (Nat.le_refl _) _)
  have hS : Sc W0 (w.heap.size + 1) s x y z := by
    rw [hW0, ← z1]
    exact Sc.new _ s x y z _
  clear z1
  have hsz : W0.heap.size = w.heap.size + 1 + 1 := by rw [hW0]; simp
  replace hsz := Lib.hid hsz
  have H4 := Lib.hid h4
  have HS := Lib.hid hS
  clear h4 hS
  go_enter Try.func4, Try.ntmps4
  go_upto_region 1 with fail
  rw [← hW0]
  clear hW0
  go_wp2_with fail
  refine (awake_any _).mono ?_
  rintro e w1 ⟨rfl, hb1⟩
  have hk1 := hb0.trans (hb1.mono hb0.size)
  have HS1 := Lib.hid (HS.out.kp hb1)
  have H41 := Lib.hid (H4.out.kp hb1)
  obtain ⟨s0, s1, s2, s3⟩ := HS1.out
  obtain ⟨c0, c1, c2, c3⟩ := H41.out
  clear HS H4 hb1
  by_cases hl : s.size ≤ 300
  case neg =>
    have i1 : ¬ (s.size : Int) ≤ 300 := by omega
    go_wp2
    go_ret
    exact ⟨rfl, hk1⟩
  case pos =>
    have i1 : (s.size : Int) ≤ 300 := by omega
    go_wp2_with fail
    refine (HM.out hl _).mono ?_
    rintro e w2 ⟨rfl, hb2⟩
    have hk2 := hk1.trans (hb2.mono hk1.size)
    have HS2 := Lib.hid (HS1.out.kp hb2)
    have H42 := Lib.hid (H41.out.kp hb2)
    clear c0 c1 c2 c3 s0 s1 s2 s3 HS1 H41 hb2
    obtain ⟨s0, s1, s2, s3⟩ := HS2.out
    obtain ⟨c0, c1, c2, c3⟩ := H42.out
    go_wp2_with fail
    refine (HT.out hl _).mono ?_
    rintro e w3 ⟨rfl, hb3⟩
    have hk3 := hk2.trans (hb3.mono hk2.size)
    have HS3 := Lib.hid (HS2.out.kp hb3)
    have H43 := Lib.hid (H42.out.kp hb3)
    clear c0 c1 c2 c3 s0 s1 s2 s3 HS2 H42 hb3
    have hA : C4 (w3.alloc (.cells #[.int .i64 v0, .int .i64 v1, .int .i64 v2, .int .i64 v3] 24)) w3.heap.size v0 v1 v2 v3 := C4.new _ _ _ _ _ _
    have hb4 : Below w3.heap.size w3 (w3.alloc (.cells #[.int .i64 v0, .int .i64 v1, .int .i64 v2, .int .i64 v3] 24)) := (Below.refl _ _).alloc (Nat.le_refl _) _
    have HS4 := Lib.hid (HS3.out.kp hb4)
    have H44 := Lib.hid (H43.out.kp hb4)
    have hk4 := hk3.trans (hb4.mono hk3.size)
    clear HS3 H43 hb4
    go_upto_region 7 with fail
    generalize (w3.alloc (.cells #[.int .i64 v0, .int .i64 v1, .int .i64 v2, .int .i64 v3] 24)) = WA at hA hk4 HS4 H44 ⊢
    generalize w3.heap.size = g7 at hA ⊢
    have HA := Lib.hid hA
    obtain ⟨u0, u1, u2, u3⟩ := hA
    obtain ⟨s0, s1, s2, s3⟩ := HS4.out
    obtain ⟨c0, c1, c2, c3⟩ := H44.out
    by_cases hE : E = 0
    case neg =>
      have dE : (E != 0) = true := by simpa using hE
      clear hE
      go_wp2
      go_ret
      exact ⟨rfl, hk4⟩
    case pos =>
      subst hE
      obtain ⟨⟨b0, b1⟩, ⟨f0, f1⟩, f2, f3, f4, f5⟩ := HF.out rfl
      subst f4
      have HF5 := Lib.hid f5
      clear f5 HF
      have dn : ¬ (v1 - b < 0) := by omega
      have dr : ¬ (R < v1 - b) := by omega
      have dn' : decide (v1 - b < 0) = false := decide_eq_false dn
      have dr' : decide (R < v1 - b) = false := decide_eq_false dr
      have dq : ((R - (v1 - b)) != (R - (v1 - b))) = false := by simp
      go_wp2_with fail
      refine (HM2.out hl _).mono ?_
      rintro e w5 ⟨rfl, hb5⟩
      have hk5 := hk4.trans (hb5.mono hk4.size)
      have HA5 := Lib.hid (HA.out.kp hb5)
      have HS5 := Lib.hid (HS4.out.kp hb5)
      clear c0 c1 c2 c3 s0 s1 s2 s3 u0 u1 u2 u3 HA HS4 H44 hb5
      obtain ⟨u0, u1, u2, u3⟩ := HA5.out
      obtain ⟨s0, s1, s2, s3⟩ := HS5.out
      by_cases hz : z = 0
      · have dz : (z == 0) = true := by simpa using hz
        clear hz
        go_wp2
        go_ret
        exact ⟨rfl, hk5⟩
      · have dz : (z == 0) = false := by simpa using hz
        by_cases hv : v0 < z
        · clear hz
          go_wp2
          go_ret
          exact ⟨rfl, hk5⟩
        · have dv : decide (v0 < z) = false := decide_eq_false hv
          have d0 : ((R - (v1 - b)) == 0) = true := by
            rcases HF5.out with h | h | h
            · exact absurd h hz
            · exact absurd h hv
            · simpa using h
          clear hz
          go_wp2_with fail
          refine (HM2.out hl _).mono ?_
          rintro e w6 ⟨rfl, hb6⟩
          go_wp2
          go_ret
          exact ⟨rfl, hk5.trans (hb6.mono hk5.size)⟩

end Go.Proofs.Ytibbgihcmcnamaa
