/-
  What is proved: the walk of the statement SocialCeiling: the call returns true. Conditions: what came in is as the frame says.
-/
import Derived.Test.YtibbgihcmcnamaaSoR
import Derived.Test.YtibbgihcmcnamaaSoS
import Derived.Deep.DeepCutAuto
import Derived.LoopTactic
namespace Go.Proofs.Ytibbgihcmcnamaa
open Go Go.RowKit Go.Lib Go.Proofs
open Ra (fitsB fitsB_iff)
set_option linter.unusedVariables false

/-- What is insured of the most that the bases came to. -/
def capV (t z : Int) : Int := if 0 < z then min t z else t
theorem cap_step {B I t z b : Int} (hI : I = capV t z) (h0 : 0 ≤ t) (ht : B ≤ t) (hz0 : 0 ≤ z) (hz : z ≤ 1125899906842624) (hb : B + b ≤ 1125899906842624) (ht2 : t ≤ 1125899906842624) : I + moreV B I z b = capV (max t (B + b)) z := by
  subst hI
  unfold moreV roomV ceilV capV
  by_cases hz1 : 0 < z
  · rw [if_pos hz1, if_pos hz1, if_neg (show ¬ z = 0 by omega)]
    omega
  · rw [if_neg hz1, if_neg hz1, if_pos (show z = 0 by omega)]
    omega
/-- A step of a year, as the statement looks at it. -/
theorem ceil_facts {B I W F : Int} {nm : Bool} {x y z b t : Int} (h : stepE B I W F nm x y z b = 0) (hI : I = capV t z) (h0 : 0 ≤ t) (ht : B ≤ t) (ht2 : t ≤ 1125899906842624) :
    (stepV B I W F nm x y z b).1 = B + b ∧ (stepV B I W F nm x y z b).2.1 = capV (max t (B + b)) z ∧ W ≤ (stepV B I W F nm x y z b).2.2.1 ∧ F ≤ (stepV B I W F nm x y z b).2.2.2 ∧ max t (B + b) ≤ 1125899906842624 ∧ -1125899906842624 ≤ B + b := by
  obtain ⟨e, hc, -, hr⟩ := step_is h
  rw [e]
  dsimp only
  obtain ⟨g0, -, hx, hy, hz⟩ := chk_ok hc
  have i0 := rightS_iff.1 g0
  have i1 := rightS_iff.1 hr
  have iz := fit0_iff.1 hz
  obtain ⟨m0, m1⟩ := more_bd B I z b i0.2.1.1 iz.2 iz.1
  have h1 := half_bd (moreV B I z b) x m0 m1 hx
  have h2 := half_bd (moreV B I z b) y m0 m1 hy
  refine ⟨rfl, cap_step hI h0 ht iz.1 iz.2 i1.1.2 ht2, by omega, by omega, by omega, by omega⟩

set_option maxHeartbeats 8000000 in
set_option maxRecDepth 100000 in
theorem walkSocialCeiling (s : ByteArray) (x y z : Int) (p : Option Addr) (n cp : Nat) (zs : List Int) (w : World) (hs : s.size ≤ maxLen) (hrow : IsRow .i64 w p n cp zs) :
    Calls Try.prog 6 #[.agg #[.string s, .int .i64 x, .int .i64 y, .int .i64 z], .slice p n cp] w fun e w' => e = .returned (.bool true) ∧ Below w.heap.size w w' := by
  unfold maxLen at hs
  obtain ⟨xs, hx, hm⟩ := wts_of hrow
  unfold maxLen at hm
  clear hrow
  have HX := Lib.hid hx
  clear hx
  obtain ⟨W0, hW0⟩ : ∃ W0, W0 = w.alloc (.cells #[.string s, .int .i64 x, .int .i64 y, .int .i64 z] 27) := ⟨_, rfl⟩
  have hb0 : Below w.heap.size w W0 := by rw [hW0]; exact (Below.refl w.heap.size w).alloc (Nat.le_refl _) _
  have hsz : W0.heap.size = w.heap.size + 1 := by rw [hW0]; simp
  have HS := Lib.hid (show Sc W0 w.heap.size s x y z by rw [hW0]; exact Sc.new _ s x y z _)
  obtain ⟨s0, s1, s2, s3⟩ := HS.out
  go_enter Try.func6, Try.ntmps6
  go_upto_region 1 with fail
  rw [← hW0]
  clear hW0
  go_wp2_with fail
  refine (awake_any _).mono ?_
  rintro e w1 ⟨rfl, hb1⟩
  have hk1 := hb0.trans (hb1.mono hb0.size)
  have HS1 := Lib.hid (HS.out.kp hb1)
  clear s0 s1 s2 s3
  obtain ⟨s0, s1, s2, s3⟩ := HS1.out
  by_cases hn : n ≤ 60
  case neg =>
    have i1 : ¬ (n : Int) ≤ 60 := by omega
    have i2 : decide ((60 : Int) < (n : Int)) = true := decide_eq_true (by omega)
    go_wp2
    go_ret
    exact ⟨rfl, hk1⟩
  case pos =>
  have i1 : (n : Int) ≤ 60 := by omega
  have i2 : decide ((60 : Int) < (n : Int)) = false := decide_eq_false (by omega)
  by_cases hl : s.size ≤ 300
  case neg =>
    have i3 : ¬ (s.size : Int) ≤ 300 := by omega
    have i4 : decide ((300 : Int) < (s.size : Int)) = true := decide_eq_true (by omega)
    go_wp2
    go_ret
    exact ⟨rfl, hk1⟩
  case pos =>
  have i3 : (s.size : Int) ≤ 300 := by omega
  have i4 : decide ((300 : Int) < (s.size : Int)) = false := decide_eq_false (by omega)
  have hA : C4 (w1.alloc (.cells #[.int .i64 0, .int .i64 0, .int .i64 0, .int .i64 0] 24)) w1.heap.size 0 0 0 0 := C4.new _ _ _ _ _ _
  have hRA : Rm4 (w1.alloc (.cells #[.int .i64 0, .int .i64 0, .int .i64 0, .int .i64 0] 24)) w1.heap.size := Rm4.new _ _ _ _ _ _
  have hbA : Below (w.heap.size + 1) W0 (w1.alloc (.cells #[.int .i64 0, .int .i64 0, .int .i64 0, .int .i64 0] 24)) := (hb1.mono (by omega)).alloc (by have := hb1.size; omega) _
  have hg5 : w.heap.size + 1 ≤ w1.heap.size := by have := hb1.size; omega
  go_upto_region 7 with fail
  go_wp2
  generalize (w1.alloc (.cells #[.int .i64 0, .int .i64 0, .int .i64 0, .int .i64 0] 24)) = WA at hA hRA hbA ⊢
  generalize w1.heap.size = g5 at hA hRA hg5 ⊢
  clear s0 s1 s2 s3 HS1 hk1 hb1
  go_loopw [6, 7, 8] (fun bv tv iv wr => ∃ k : Nat, ∃ B I W F t : Int, k ≤ n ∧ iv = .int .i64 k ∧ bv = .int .i64 B ∧ tv = .int .i64 t ∧ Hid (I = capV t z) ∧ 0 ≤ t ∧ B ≤ t ∧ t ≤ 1125899906842624 ∧ -1125899906842624 ≤ B ∧ Hid (C4 wr g5 B I W F) ∧ Hid (Rm4 wr g5) ∧ Hid (Below (w.heap.size + 1) W0 wr)) (fun _ _ iv _ => n - (RowKit.intOf iv).toNat)
  case atStart =>
    refine ⟨0, 0, 0, 0, 0, 0, by omega, rfl, rfl, rfl, Lib.hid ?_, by omega, by omega, by omega, by omega, Lib.hid hA, Lib.hid hRA, Lib.hid hbA⟩
    unfold capV; split <;> omega
  case round =>
    obtain ⟨k, B, I, W, F, t, hk, rfl, rfl, rfl, HI, t0, t1, t2, t3, HC, HR, HB⟩ := hrel
    by_cases hlt : k < n
    · rcases HX.out with h | ⟨rb, ro, rfl, hrb, hc⟩
      · omega
      have hc2 := hc k hlt
      have HT := Lib.hid (fun W' => Step_any B I W F s x y z (xs k) (by omega) W')
      have HF := fun h => @ceil_facts B I W F (nameL s.data.toList) x y z (xs k) t h HI.out t0 t1 t2
      have HV : stepE B I W F (nameL s.data.toList) x y z (xs k) ≠ 0 → stepV B I W F (nameL s.data.toList) x y z (xs k) = (0, 0, 0, 0) := fun h => by unfold stepV; rw [if_neg h]
      clear hc
      generalize xs k = v at hc2 HT HF HV
      generalize stepV B I W F (nameL s.data.toList) x y z v = V at HT HF HV
      generalize stepE B I W F (nameL s.data.toList) x y z v = E at HT HF HV
      obtain ⟨v0, v1, v2, v3⟩ := V
      dsimp only at HT HF HV
      replace HF := Lib.hid HF
      replace HV := Lib.hid HV
      have hcw : wr.cell? ⟨rb, ro + k, none⟩ = some (.int .i64 v) := (HB.out.cell (p := ⟨rb, ro + k, none⟩) (show rb < w.heap.size + 1 by omega)).trans ((hb0.cell (p := ⟨rb, ro + k, none⟩) hrb).trans hc2)
      have hsw : Sc wr w.heap.size s x y z := HS.out.kb (by omega) HB.out
      have hrbw : rb < wr.heap.size := World.block_lt_of_cell? wr _ hcw
      have HSW := Lib.hid hsw
      have HCW := Lib.hid hcw
      have j0 : (0 : Int) ≤ (k : Int) := by omega
      have j1 : (k : Int) < (n : Int) := by omega
      clear hcw hsw hc2
      go_upto_region 10 with fail
      go_cut [9, 10] (fun s12 s13 wx => ∃ g, s12 = .pointer (some ⟨g, 0, none⟩) ∧ s13 = .int .i64 E ∧ Hid (C4 wx g v0 v1 v2 v3) ∧ Hid (Below wr.heap.size wr wx))
      case first =>
        have KP : Hid (∀ w', Below wr.heap.size wr w' → ((w'.cell? ⟨g5, 0, none⟩ = some (.int .i64 B) ∧ w'.cell? ⟨g5, 1, none⟩ = some (.int .i64 I) ∧ w'.cell? ⟨g5, 2, none⟩ = some (.int .i64 W) ∧ w'.cell? ⟨g5, 3, none⟩ = some (.int .i64 F)) ∧ (w'.cell? ⟨w.heap.size, 0, none⟩ = some (.string s) ∧ w'.cell? ⟨w.heap.size, 1, none⟩ = some (.int .i64 x) ∧ w'.cell? ⟨w.heap.size, 2, none⟩ = some (.int .i64 y) ∧ w'.cell? ⟨w.heap.size, 3, none⟩ = some (.int .i64 z)) ∧ w'.cell? ⟨rb, ro + k, none⟩ = some (.int .i64 v)) ∧ Below wr.heap.size wr w') := Lib.hid (fun w' h => ⟨⟨HC.out.kp h, HSW.out.kp h, (h.cell (p := ⟨rb, ro + k, none⟩) hrbw).trans HCW.out⟩, h⟩)
        go_region_held3 (fun w' => ((w'.cell? ⟨g5, 0, none⟩ = some (.int .i64 B) ∧ w'.cell? ⟨g5, 1, none⟩ = some (.int .i64 I) ∧ w'.cell? ⟨g5, 2, none⟩ = some (.int .i64 W) ∧ w'.cell? ⟨g5, 3, none⟩ = some (.int .i64 F)) ∧ (w'.cell? ⟨w.heap.size, 0, none⟩ = some (.string s) ∧ w'.cell? ⟨w.heap.size, 1, none⟩ = some (.int .i64 x) ∧ w'.cell? ⟨w.heap.size, 2, none⟩ = some (.int .i64 y) ∧ w'.cell? ⟨w.heap.size, 3, none⟩ = some (.int .i64 z)) ∧ w'.cell? ⟨rb, ro + k, none⟩ = some (.int .i64 v)) ∧ Below wr.heap.size wr w') (first | with_reducible exact KP.out _ (put4_below hky (Nat.le_refl _) _ _ _ _) | with_reducible exact KP.out _ (put4_below hky hgx _ _ _ _) | with_reducible exact KP.out _ kb_drew | with_reducible exact KP.out _ (by assumption) | with_reducible exact KP.out _ (Below.alloc (by assumption) (by assumption) _) | with_reducible exact KP.out _ (Below.alloc kb_drew (Below.size kb_drew) _) | with_reducible exact KP.out _ (Below.drew (Below.alloc (Below.refl _ _) (Nat.le_refl _) _))) (first | (go_at_call 11; refine (HT.out _).mono ?_; rintro e wy ⟨rfl, hby⟩; have hky : Below wr.heap.size wr wy := kb_call hby (by assumption); have hgy := hky.size; first | (have hry := (Rm4.new _ _ _ _ _ _).drew.below hby) | (have hry := (Rm4.new _ _ _ _ _ _).below hby) | skip) | (obtain ⟨y0, y1, y2, y3, ⟨a0, a1, a2, a3⟩, ⟨b0, b1, b2, b3⟩⟩ := hry.all; simp (config := { decide := true }) only [a0, a1, a2, a3, b0, b1, b2, b3, Result.andThen, World.frozen?_setCell, set_off, ne_eq, Bool.false_eq_true, reduceIte]; clear a0 a1 a2 a3 b0 b1 b2 b3; go_simp))
        all_goals (go_wp2; go_meet; first | with_reducible exact ⟨_, rfl, rfl, Lib.hid (C4.new _ _ _ _ _ _), Lib.hid (hky.alloc hgy _)⟩ | with_reducible exact ⟨_, rfl, rfl, Lib.hid (hry.c4 _ _ _ _), Lib.hid (put4_below hky (Nat.le_refl _) _ _ _ _)⟩)
      case rest =>
        obtain ⟨g9, rfl, rfl, HD, HkD⟩ := hcut
        rename World => wx
        have HBX := Lib.hid (HB.out.trans (HkD.out.mono (by have := HB.out.size; omega)))
        have HRX := Lib.hid (HR.out.below HkD.out)
        have HCX := Lib.hid (HC.out.kp HkD.out)
        have hcx := (HkD.out.cell (p := ⟨rb, ro + k, none⟩) hrbw).trans HCW.out
        obtain ⟨s0, s1, s2, s3⟩ := HSW.out.kp HkD.out
        obtain ⟨d0, d1, d2, d3⟩ := HD.out
        obtain ⟨c0, c1, c2, c3⟩ := HCX.out
        by_cases hE : E = 0
        case neg =>
          have dE : (E != 0) = true := by simpa using hE
          obtain ⟨rfl, rfl, rfl, rfl⟩ : v0 = 0 ∧ v1 = 0 ∧ v2 = 0 ∧ v3 = 0 := by
            have := HV.out hE
            simpa using this
          clear hE HV HF
          go_wp2
          go_ret
          exact ⟨rfl, hb0.trans (HBX.out.mono (by omega))⟩
        case pos =>
          subst hE
          obtain ⟨f0, f1, f2, f3, f4, f5⟩ := HF.out rfl
          subst f0
          have f6 : B + v ≤ 1125899906842624 := by omega
          have e0 : ((B + v) != (B + v)) = false := by simp
          have e2 : decide (v2 < W) = false := decide_eq_false (by omega)
          have e3 : decide (v3 < F) = false := decide_eq_false (by omega)
          obtain ⟨m0, m1, m2, m3, ⟨a0, a1, a2, a3⟩, b0, b1, b2, b3⟩ := HRX.out.all
          have HPB := Lib.hid (put4_below HBX.out hg5 (.int .i64 (B + v)) (.int .i64 v1) (.int .i64 v2) (.int .i64 v3))
          have HPR := Lib.hid (HRX.out.put4 (.int .i64 (B + v)) (.int .i64 v1) (.int .i64 v2) (.int .i64 v3))
          have HPC := Lib.hid (HRX.out.c4 (B + v) v1 v2 v3)
          have HF1 := Lib.hid f1
          clear f1 HF HV HD a0 a1 a2 a3
          by_cases hz : 0 < z
          · have f7 : v1 = min (max t (B + v)) z := by have := HF1.out; unfold capV at this; rw [if_pos hz] at this; exact this
            subst f7
            go_wp2
            exact ⟨⟨k + 1, _, _, _, _, _, by omega, by go_num, rfl, rfl, HF1, by omega, by omega, by omega, by omega, HPC, HPR, HPB⟩, by simp [RowKit.intOf]; omega⟩
          · have f7 : v1 = max t (B + v) := by have := HF1.out; unfold capV at this; rw [if_neg hz] at this; exact this
            subst f7
            go_wp2
            exact ⟨⟨k + 1, _, _, _, _, _, by omega, by go_num, rfl, rfl, HF1, by omega, by omega, by omega, by omega, HPC, HPR, HPB⟩, by simp [RowKit.intOf]; omega⟩
    · go_wp2
      go_ret
      exact ⟨rfl, hb0.trans (HB.out.mono (by omega))⟩

end Go.Proofs.Ytibbgihcmcnamaa
