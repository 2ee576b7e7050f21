/-
  What is proved: the contracts of social.Room, of the statements' of and old, and of the document's Of, and Room. Conditions: codes are shorter than 2^62 bytes.
-/
import Derived.Test.YtibbgihcmcnamaaSoH
namespace Go.Proofs.Ytibbgihcmcnamaa
open Go Go.RowKit Go.Lib Go.Proofs
open Ra (fitsB fitsB_iff)
set_option linter.unusedVariables false

theorem rright_any (c : Int) (w : World) : Calls Try.prog 39 #[.int .i64 c] w fun e w' => e = .returned (.bool (Ra.rightB c)) ∧ w = w' := by
  by_cases h1 : -1000000000 ≤ c
  · by_cases h2 : c ≤ 1000000000
    · rw [Ra.rightB_yes h1 h2]
      go_enter Try.func39, Try.ntmps39
      go_wp2
      go_ret
      exact ⟨rfl, rfl⟩
    · rw [Ra.rightB_no (by omega)]
      go_enter Try.func39, Try.ntmps39
      go_wp2
      go_ret
      exact ⟨rfl, rfl⟩
  · rw [Ra.rightB_no (by omega)]
    go_enter Try.func39, Try.ntmps39
    go_wp2
    go_ret
    exact ⟨rfl, rfl⟩

set_option maxHeartbeats 1000000 in
set_option maxRecDepth 100000 in
theorem rOf2_any (c r mode : Int) (w : World) : Calls Try.prog 28 #[.int .i64 c, .int .i64 r, .int .i64 mode] w fun e w' => e = .returned (.tuple #[.int .i64 (Ra.ofVE c r mode).1, .int .i64 (Ra.ofVE c r mode).2]) ∧ Below w.heap.size w w' := by
  by_cases hf : Ra.fitsB c = true
  · by_cases hr : Ra.rightB r = true
    · obtain ⟨f1, f2⟩ := Ra.rightB_iff.1 hr
      rw [show Ra.ofVE c r mode = Ra.partVE c r 1000000 mode by simp [Ra.ofVE, hr]]
      have H := Lib.hid (fun W => Ra.rpart_any c r 1000000 mode (by omega) (by omega) (by omega) W)
      go_enter Try.func28, Try.ntmps28
      go_wp2_with fail
      refine (Ra.rfits2_any _ _).mono ?_
      rintro e w' ⟨rfl, rfl⟩
      rw [hf]
      go_wp2_with fail
      refine (rright_any _ _).mono ?_
      rintro e w' ⟨rfl, rfl⟩
      rw [hr]
      go_wp2_with fail
      refine (H.out _).mono ?_
      rintro e w1 ⟨rfl, hb⟩
      go_wp2
      go_ret2
      exact ⟨rfl, hb⟩
    · simp only [Bool.not_eq_true] at hr
      rw [show Ra.ofVE c r mode = (0, 2) by simp [Ra.ofVE, hr]]
      go_enter Try.func28, Try.ntmps28
      go_wp2_with fail
      refine (Ra.rfits2_any _ _).mono ?_
      rintro e w' ⟨rfl, rfl⟩
      rw [hf]
      go_wp2_with fail
      refine (rright_any _ _).mono ?_
      rintro e w' ⟨rfl, rfl⟩
      rw [hr]
      go_wp2
      go_ret2
      exact ⟨rfl, Below.refl _ _⟩
  · simp only [Bool.not_eq_true] at hf
    rw [show Ra.ofVE c r mode = (0, 2) by unfold Ra.ofVE Ra.partVE; simp [hf]]
    go_enter Try.func28, Try.ntmps28
    go_wp2_with fail
    refine (Ra.rfits2_any _ _).mono ?_
    rintro e w' ⟨rfl, rfl⟩
    rw [hf]
    go_wp2
    go_ret2
    exact ⟨rfl, Below.refl _ _⟩


theorem of_any (a b c d : Int) (w : World) : Calls Try.prog 13 #[.agg #[.int .i64 a, .int .i64 b, .int .i64 c, .int .i64 d]] w fun e w' => e = .returned (.agg #[.int .i64 a, .int .i64 b, .int .i64 c, .int .i64 d]) ∧ Below w.heap.size w w' := by
  go_enter Try.func13, Try.ntmps13
  go_wp2
  exact bodyPost_ret (v := .agg #[.int .i64 a, .int .i64 b, .int .i64 c, .int .i64 d]) (by simp [results, Try.results13, go_sem]) rfl ⟨rfl, ((Below.refl _ _).alloc (Nat.le_refl _) _).alloc (by simp) _⟩
theorem reti {a b : Int} (h : a = b) : Ending.returned (.int .i64 a) = .returned (.int .i64 b) := by rw [h]
/-- The example's code. -/
def oldS : ByteArray := { data := #[111, 108, 100] }
theorem old_any (w : World) : Calls Try.prog 20 #[] w fun e w' => e = .returned (.agg #[.string oldS, .int .i64 100000, .int .i64 120000, .int .i64 700000]) ∧ Below w.heap.size w w' := by
  go_enter Try.func20, Try.ntmps20
  go_wp2
  exact bodyPost_ret (v := .agg #[.string oldS, .int .i64 100000, .int .i64 120000, .int .i64 700000]) (by simp [results, Try.results20, go_sem, oldS]) rfl ⟨rfl, (Below.refl _ _).alloc (Nat.le_refl _) _⟩

/-- How much more may be insured, or 0. -/
def RoomV (a b c d : Int) (nm : Bool) (x y z : Int) : Int := if chkE (rightS a b c d) nm x y z = 0 then roomV b z else 0

set_option maxHeartbeats 4000000 in
theorem Room_any (a b c d : Int) (s : ByteArray) (x y z : Int) (hs : s.size ≤ 4611686018427387904) (w : World) :
    Calls Try.prog 14 #[.agg #[.int .i64 a, .int .i64 b, .int .i64 c, .int .i64 d], .agg #[.string s, .int .i64 x, .int .i64 y, .int .i64 z]] w fun e w' => e = .returned (.int .i64 (RoomV a b c d (nameL s.data.toList) x y z)) ∧ Below w.heap.size w w' := by
  have HC := Lib.hid (fun W => check_any a b c d s x y z hs W)
  have hok := fun h => chk_ok (rt := rightS a b c d) (nm := nameL s.data.toList) (x := x) (y := y) (z := z) h
  rw [rightS_iff, partB_iff, partB_iff, fit0_iff] at hok
  unfold RoomV
  generalize chkE (rightS a b c d) (nameL s.data.toList) x y z = ce at HC hok ⊢
  obtain ⟨R, hR⟩ : ∃ R, R = if ce = 0 then roomV b z else 0 := ⟨_, rfl⟩
  rw [← hR]
  replace hR := Lib.hid hR
  obtain ⟨W0, hW0⟩ : ∃ W0, W0 = (w.alloc (.cells #[.int .i64 a, .int .i64 b, .int .i64 c, .int .i64 d] 24)).alloc (.cells #[.string s, .int .i64 x, .int .i64 y, .int .i64 z] 27) := ⟨_, rfl⟩
  have hb3 : Below w.heap.size w W0 := by rw [hW0]; exact ((Below.refl w.heap.size w).alloc (Nat.le_refl _) _).alloc (by simp) _
  have z1 : (w.alloc (.cells #[.int .i64 a, .int .i64 b, .int .i64 c, .int .i64 d] 24)).heap.size = w.heap.size + 1 := by simp
  have h4 : C4 W0 w.heap.size a b c d := by
    rw [hW0]
    exact (C4.new w a b c d _).kp ((Below.refl _ _).alloc (Nat.le_refl _) _)
  have hS : Sc W0 (w.heap.size + 1) s x y z := by
    rw [hW0, ← z1]
    exact Sc.new _ s x y z _
  clear z1
  have KP : Hid (∀ w', Below W0.heap.size W0 w' → C4 w' w.heap.size a b c d ∧ Sc w' (w.heap.size + 1) s x y z) := Lib.hid (fun w' h => ⟨h4.kp h, hS.kp h⟩)
  obtain ⟨c0, c1, c2, c3⟩ := h4
  obtain ⟨s0, s1, s2, s3⟩ := hS
  replace hok := Lib.hid hok
  go_enter Try.func14, Try.ntmps14
  go_upto_region 1 with fail
  rw [← hW0]
  clear hW0
  go_wp2_with fail
  refine (HC.out _).mono ?_
  rintro e w1 ⟨rfl, hb1⟩
  have hb4 := hb3.trans (hb1.mono hb3.size)
  clear c0 c1 c2 c3 s0 s1 s2 s3
  obtain ⟨⟨c0, c1, c2, c3⟩, s0, s1, s2, s3⟩ := KP.out _ hb1
  by_cases h0 : ce = 0
  case neg =>
    have d0 : (ce != 0) = true := by simpa using h0
    obtain rfl : R = 0 := by rw [hR.out, if_neg h0]
    clear h0 hR
    go_wp2
    go_ret
    exact ⟨rfl, hb4⟩
  case pos =>
    subst h0
    obtain ⟨⟨⟨r0, r1⟩, ⟨r2, r3⟩, ⟨r4, r5⟩, r6, r7⟩, -, ⟨p0, p1⟩, ⟨q0, q1⟩, o0, o1⟩ := hok.out rfl
    have hR' : R = roomV b z := by rw [hR.out, if_pos rfl]
    clear hR
    have HR := Lib.hid (fun W => room_any a b c d s x y z r2 r3 o0 o1 W)
    clear hok r0 r1 r2 r3 r4 r5 r6 r7 p0 p1 q0 q1 o0 o1
    rw [← hR'] at HR
    clear hR'
    go_wp2_with fail
    refine (HR.out _).mono ?_
    rintro e w2 ⟨rfl, hb2⟩
    go_wp2
    go_ret
    exact ⟨rfl, hb4.trans (hb2.mono hb4.size)⟩

set_option maxHeartbeats 4000000 in
theorem rRoom_any (a b c d : Int) (s : ByteArray) (x y z : Int) (hs : s.size ≤ 4611686018427387904) (w : World) :
    Calls Try.prog 15 #[.agg #[.int .i64 a, .int .i64 b, .int .i64 c, .int .i64 d], .agg #[.string s, .int .i64 x, .int .i64 y, .int .i64 z]] w fun e w' => e = .returned (.int .i64 (RoomV a b c d (nameL s.data.toList) x y z)) ∧ Below w.heap.size w w' := by
  have HG := Lib.hid (fun W => rRight_any a b c d W)
  have HC := Lib.hid (fun W => rcheck_any s x y z hs W)
  have hok := fun h => chk_ok (rt := rightS a b c d) (nm := nameL s.data.toList) (x := x) (y := y) (z := z) h
  rw [rightS_iff, partB_iff, partB_iff, fit0_iff] at hok
  unfold RoomV
  unfold chkE at hok ⊢
  have hrr := @rightS_iff a b c d
  generalize rightS a b c d = rt at HG hok ⊢
  generalize schE (nameL s.data.toList) x y z = ce at HC hok ⊢
  clear hrr
  obtain ⟨W0, hW0⟩ : ∃ W0, W0 = (w.alloc (.cells #[.int .i64 a, .int .i64 b, .int .i64 c, .int .i64 d] 32)).alloc (.cells #[.string s, .int .i64 x, .int .i64 y, .int .i64 z] 27) := ⟨_, rfl⟩
  have hb3 : Below w.heap.size w W0 := by rw [hW0]; exact ((Below.refl w.heap.size w).alloc (Nat.le_refl _) _).alloc (by simp) _
  have z1 : (w.alloc (.cells #[.int .i64 a, .int .i64 b, .int .i64 c, .int .i64 d] 32)).heap.size = w.heap.size + 1 := by simp
  have h4 : C4 W0 w.heap.size a b c d := by
    rw [hW0]
    exact (C4.new w a b c d _).kp ((Below.refl _ _).alloc (Nat.le_refl _) _)
  have hS : Sc W0 (w.heap.size + 1) s x y z := by
    rw [hW0, ← z1]
    exact Sc.new _ s x y z _
  clear z1
  have KP : Hid (∀ w', Below W0.heap.size W0 w' → C4 w' w.heap.size a b c d ∧ Sc w' (w.heap.size + 1) s x y z) := Lib.hid (fun w' h => ⟨h4.kp h, hS.kp h⟩)
  obtain ⟨c0, c1, c2, c3⟩ := h4
  obtain ⟨s0, s1, s2, s3⟩ := hS
  replace hok := Lib.hid hok
  cases rt
  case false =>
    rw [if_neg (show ¬ (if false = true then ce else 2) = 0 by simp)]
    go_enter Try.func15, Try.ntmps15
    go_upto_region 1 with fail
    rw [← hW0]
    clear hW0
    go_wp2_with fail
    refine (HG.out _).mono ?_
    rintro e w1 ⟨rfl, hb1⟩
    have hb4 := hb3.trans (hb1.mono hb3.size)
    go_wp2
    go_ret
    exact ⟨rfl, hb4⟩
  case true =>
    rw [if_pos rfl]
    replace hok := Lib.hid (fun h => hok.out (show (if true = true then ce else 2) = 0 from h))
    by_cases h0 : ce = 0
    case neg =>
      have d0 : (ce != 0) = true := by simpa using h0
      rw [if_neg h0]
      clear h0
      go_enter Try.func15, Try.ntmps15
      go_upto_region 1 with fail
      rw [← hW0]
      clear hW0
      go_wp2_with fail
      refine (HG.out _).mono ?_
      rintro e w1 ⟨rfl, hb1⟩
      have hb4 := hb3.trans (hb1.mono hb3.size)
      clear c0 c1 c2 c3 s0 s1 s2 s3
      obtain ⟨⟨c0, c1, c2, c3⟩, s0, s1, s2, s3⟩ := KP.out _ hb1
      go_wp2_with fail
      refine (HC.out _).mono ?_
      rintro e w2 ⟨rfl, hb2⟩
      go_wp2
      go_ret
      exact ⟨rfl, hb4.trans (hb2.mono hb4.size)⟩
    case pos =>
      subst h0
      rw [if_pos rfl]
      obtain ⟨⟨⟨r0, r1⟩, ⟨r2, r3⟩, ⟨r4, r5⟩, r6, r7⟩, -, ⟨p0, p1⟩, ⟨q0, q1⟩, o0, o1⟩ := hok.out rfl
      clear hok r0 r1 r4 r5 r6 r7 p0 p1 q0 q1
      by_cases hz : z = 0
      · have dz : (z == 0) = true := by simpa using hz
        have hv : roomV b z = 1125899906842624 - b := by unfold roomV ceilV; rw [if_pos hz]; omega
        rw [hv]
        have dl : ¬ (1125899906842624 < b) := by omega
        clear hv hz
        go_enter Try.func15, Try.ntmps15
        go_upto_region 1 with fail
        rw [← hW0]
        clear hW0
        go_wp2_with fail
        refine (HG.out _).mono ?_
        rintro e w1 ⟨rfl, hb1⟩
        have hb4 := hb3.trans (hb1.mono hb3.size)
        clear c0 c1 c2 c3 s0 s1 s2 s3
        obtain ⟨⟨c0, c1, c2, c3⟩, s0, s1, s2, s3⟩ := KP.out _ hb1
        go_wp2_with fail
        refine (HC.out _).mono ?_
        rintro e w2 ⟨rfl, hb2⟩
        clear c0 c1 c2 c3 s0 s1 s2 s3
        obtain ⟨⟨c0, c1, c2, c3⟩, s0, s1, s2, s3⟩ := KP.out _ (hb1.trans (hb2.mono hb1.size))
        go_wp2
        go_ret
        exact ⟨rfl, hb4.trans (hb2.mono hb4.size)⟩
      · have dz : (z == 0) = false := by simpa using hz
        by_cases hl : z < b
        · have hv : roomV b z = 0 := by unfold roomV ceilV; rw [if_neg hz]; omega
          rw [hv]
          clear hv hz
          go_enter Try.func15, Try.ntmps15
          go_upto_region 1 with fail
          rw [← hW0]
          clear hW0
          go_wp2_with fail
          refine (HG.out _).mono ?_
          rintro e w1 ⟨rfl, hb1⟩
          have hb4 := hb3.trans (hb1.mono hb3.size)
          clear c0 c1 c2 c3 s0 s1 s2 s3
          obtain ⟨⟨c0, c1, c2, c3⟩, s0, s1, s2, s3⟩ := KP.out _ hb1
          go_wp2_with fail
          refine (HC.out _).mono ?_
          rintro e w2 ⟨rfl, hb2⟩
          clear c0 c1 c2 c3 s0 s1 s2 s3
          obtain ⟨⟨c0, c1, c2, c3⟩, s0, s1, s2, s3⟩ := KP.out _ (hb1.trans (hb2.mono hb1.size))
          go_wp2
          go_ret
          exact ⟨rfl, hb4.trans (hb2.mono hb4.size)⟩
        · have hv : roomV b z = z - b := by unfold roomV ceilV; rw [if_neg hz]; omega
          rw [hv]
          clear hv hz
          go_enter Try.func15, Try.ntmps15
          go_upto_region 1 with fail
          rw [← hW0]
          clear hW0
          go_wp2_with fail
          refine (HG.out _).mono ?_
          rintro e w1 ⟨rfl, hb1⟩
          have hb4 := hb3.trans (hb1.mono hb3.size)
          clear c0 c1 c2 c3 s0 s1 s2 s3
          obtain ⟨⟨c0, c1, c2, c3⟩, s0, s1, s2, s3⟩ := KP.out _ hb1
          go_wp2_with fail
          refine (HC.out _).mono ?_
          rintro e w2 ⟨rfl, hb2⟩
          clear c0 c1 c2 c3 s0 s1 s2 s3
          obtain ⟨⟨c0, c1, c2, c3⟩, s0, s1, s2, s3⟩ := KP.out _ (hb1.trans (hb2.mono hb1.size))
          go_wp2
          go_ret
          exact ⟨rfl, hb4.trans (hb2.mono hb4.size)⟩

end Go.Proofs.Ytibbgihcmcnamaa
