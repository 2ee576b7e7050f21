/-
  What is proved: the contract of the document's own Parse of a week: the week that a text says, or why there is none. Conditions: texts of at most 5000 bytes.
-/
import Derived.Test.YtbgilplaefdhbaaDoorDkR
import Derived.Test.YtbgilplaefdhbaaDoorDkS
import Derived.BigRegion
import Derived.RegionTactic
import Derived.Lib.MinMax
namespace Go.Proofs.YtbgilplaefdhbaaDoor
open Go Go.RowKit Go.Lib Go.Proofs
set_option linter.unusedVariables false
set_option linter.unusedSimpArgs false

theorem Rd.head {S c : List UInt8} {i fr : Nat} {fs : List (List UInt8)} (h : Rd S i fr fs c) (hc : c ≠ []) : c.head? = S[fr]? := by
  have hl := h.len
  have hp : 0 < c.length := List.length_pos_iff.2 hc
  rw [h.cur, List.head?_drop, List.getElem?_take]
  rw [if_pos (by omega)]
theorem rV_start (j : Nat) : rV [] [] j = 0 := by
  unfold rV
  rw [if_neg (by simp)]
  split <;> rfl
/-- What holds at a round's head. -/
def RdI (S : List UInt8) (a fr i : Nat) (bg : Bool) (w : World) (g : Nat) : Prop :=
  (∃ fs c, Rd S i fr fs c ∧ a = fs.length ∧ bg = bigs fs ∧ W7 w g (rV fs c)) ∨ (i = S.length + 1 ∧ ∃ fs, Rdd S fs ∧ a = fs.length ∧ bg = bigs fs ∧ W7 w g (rV fs []))
theorem RdI.close {S c : List UInt8} {i fr g : Nat} {fs : List (List UInt8)} {w : World} (h : Rd S i fr fs c) (hc : Closes S i) (hn : badN c = false) (ha : fs.length ≤ 6) (hw : W7 w g (rV fs c)) :
    RdI S (fs.length + 1) (i + 1) (i + 1) (bigs fs || decide (1440 < cap (valN c))) w g := by
  have hb : (bigs fs || decide (1440 < cap (valN c))) = bigs (fs ++ [c]) := by
    rw [bigs_push]; congr 1; exact decide_eq_decide.2 (cap_big _)
  have hw' : W7 w g (rV (fs ++ [c]) []) := hw.congr (fun j _ => rV_push fs c j)
  rcases hc with hc | hc
  · exact .inl ⟨_, _, h.next hc hn ha, by simp, hb, hw'⟩
  · exact .inr ⟨by omega, _, h.done hc hn ha, by simp, hb, hw'⟩

set_option maxHeartbeats 8000000 in
set_option maxRecDepth 100000 in
theorem rParse_any (s : ByteArray) (hs : s.size ≤ 5000) (w : World) : Calls Tryd.prog 10 #[.string s] w (PrsPost (fieldsL s.data.toList) w) := by
  have hln := size_len s
  obtain ⟨S, hS⟩ : ∃ S, S = s.data.toList := ⟨_, rfl⟩
  have hget := fun k h => get_list s k h
  rw [← hS] at hln hget ⊢
  have HGET := Lib.hid hget
  have HLN := Lib.hid hln
  have HNO := Lib.hid (fun w' (h : wfE (fieldsL S) = 3) hb => PrsPost.no (w := w) (w' := w') h (by omega) hb)
  have HNO2 := Lib.hid (fun w' (h : wfE (fieldsL S) = 2) hb => PrsPost.no (w := w) (w' := w') h (by omega) hb)
  obtain ⟨Wz, hWz⟩ : ∃ Wz, Wz = w.alloc (.cells #[.int .i64 0, .int .i64 0, .int .i64 0, .int .i64 0, .int .i64 0, .int .i64 0, .int .i64 0] 22) := ⟨_, rfl⟩
  have hbz : Below w.heap.size w Wz := by rw [hWz]; exact (Below.refl _ _).alloc (Nat.le_refl _) _
  have hrz : W7 Wz w.heap.size (fun _ => 0) := by rw [hWz]; exact new7 _ _
  have hzz : Wz.heap.size = w.heap.size + 1 := by rw [hWz]; simp
  obtain ⟨W1, hW1⟩ : ∃ W1, W1 = Wz.alloc (.cells #[.int .i64 0, .int .i64 0, .int .i64 0, .int .i64 0, .int .i64 0, .int .i64 0, .int .i64 0] 22) := ⟨_, rfl⟩
  have hb1 : Below Wz.heap.size Wz W1 := by rw [hW1]; exact (Below.refl _ _).alloc (Nat.le_refl _) _
  have hg1 : W7 W1 (w.heap.size + 1) (fun _ => 0) := by rw [hW1, ← hzz]; exact new7 _ _
  have hr1 := hrz.below hb1
  have hb0 : Below w.heap.size w W1 := hbz.trans (hb1.mono hbz.size)
  rw [hWz] at hW1
  clear hS hbz hrz hb1 hzz hWz hget hln
  obtain ⟨n, hn⟩ : ∃ n, n = s.size := ⟨_, rfl⟩
  go_enter Tryd.func10, Tryd.ntmps10
  go_wp2_with fail
  rw [← hW1]
  clear hW1
  obtain ⟨gg, hgg⟩ : ∃ gg, gg = w.heap.size + 1 := ⟨_, rfl⟩
  rw [← hgg] at hg1 ⊢
  have hgr : w.heap.size < gg := by omega
  clear hgg
  go_loopw [5, 6, 7, 8] (fun av fv bv iv wr => ∃ (a fr i : Nat) (bg : Bool), i ≤ s.size + 1 ∧ a ≤ 7 ∧ fr ≤ i ∧ av = .int .i64 a ∧ fv = .int .i64 fr ∧ bv = .bool bg ∧ iv = .int .i64 i ∧ Hid (RdI S a fr i bg wr gg) ∧ Hid (W7 wr w.heap.size (fun _ => 0)) ∧ Below w.heap.size w wr) (fun _ _ _ iv _ => s.size + 1 - (RowKit.intOf iv).toNat)
  case atStart => exact ⟨0, 0, 0, false, by omega, by omega, by omega, rfl, rfl, rfl, rfl, Lib.hid (.inl ⟨[], [], Rd.start S, rfl, rfl, hg1.congr (fun j _ => rV_start j)⟩), Lib.hid hr1, hb0⟩
  case round =>
    obtain ⟨a, fr, i, bg, hi, ha7, hfr, rfl, rfl, rfl, rfl, HI, HR, hb⟩ := hrel
    rcases HI.out with ⟨fs, c, hrd, hafs, hbg, hw⟩ | ⟨hin, fs, hrdd, hafs, hbg, hw⟩
    · have hle := hrd.le
      rw [HLN.out] at hle
      have j1 : (i : Int) ≤ (s.size : Int) := by omega
      have hcl : c.length = i - fr := hrd.len
      have HW := Lib.hid hw
      have h13 : ∀ k, k < 7 → rV fs c k = rV fs c k := fun _ _ => rfl
      clear h13
      by_cases hlt : i < s.size
      · have j2 : (i : Int) < (s.size : Int) := by omega
        have hby := HGET.out i hlt
        by_cases h32 : s[i] = 32
        · have g32 : ((s[i].toNat : Int) != 32) = false := by rw [h32]; rfl
          have HCL : Hid (Closes S i) := Lib.hid (.inl (by rw [hby, h32]))
          clear hby h32
          by_cases hc0 : c = []
          · have g1 : (i == fr) = true := by rw [hc0] at hcl; simp at hcl ⊢; omega
            have g1' : ((i : Int) == (fr : Int)) = true := by rw [hc0] at hcl; simp at hcl ⊢; omega
            have HP := Lib.hid (fun w' hb => HNO.out w' (hrd.bad HCL.out (by rw [hc0]; rfl)) hb)
            clear hrd hw HW hcl hafs hbg hc0
            obtain ⟨⟨a0, a1, a2, a3, a4, a5, a6⟩, ⟨b0, b1, b2, b3, b4, b5, b6⟩⟩ := HR.out.all
            obtain ⟨⟨q0, q1, q2, q3, q4, q5, q6⟩, -⟩ := (HR.out.set (fun _ => 0)).all
            have hbF := set7_below hb (Nat.le_refl _) (fun _ => 0)
            go_wp2_with fail
            exact bodyPost_ret (v := (.tuple #[.agg #[.int .i64 0, .int .i64 0, .int .i64 0, .int .i64 0, .int .i64 0, .int .i64 0, .int .i64 0], .int .i64 3])) (by simp [results, Tryd.results10, go_sem, q0, q1, q2, q3, q4, q5, q6]) rfl (HP.out _ hbF)
          have hpos : 0 < c.length := List.length_pos_iff.2 hc0
          have hfi : fr < i := by omega
          have hfs : fr < s.size := by omega
          have g1 : (i == fr) = false := by simp; omega
          have g1' : ((i : Int) == (fr : Int)) = false := by simp; omega
          have g2 : IntKind.i64.wrap ((fr : Int) + 1) = (fr : Int) + 1 := IntWalk.i64_in _ (by omega)
          have hbf := HGET.out fr hfs
          have hhd := hrd.head hc0
          rw [hbf] at hhd
          have jf : (fr : Int) < (s.size : Int) := by omega
          by_cases hz0 : (s[fr]'hfs) = 48 ∧ fr + 1 < i
          · have g3 : (((s[fr]'hfs).toNat : Int) == 48) = true := by rw [hz0.1]; rfl
            have g4 : decide ((fr : Int) + 1 < (i : Int)) = true := by simp; omega
            have g4' : decide (fr + 1 < i) = true := by simp; omega
            have HP := Lib.hid (fun w' hb => HNO.out w' (hrd.bad HCL.out (badN_zero (by rw [hhd, hz0.1]) (by omega))) hb)
            clear hrd hw HW hcl hafs hbg hc0 hz0 hpos hbf hhd
            obtain ⟨⟨a0, a1, a2, a3, a4, a5, a6⟩, ⟨b0, b1, b2, b3, b4, b5, b6⟩⟩ := HR.out.all
            obtain ⟨⟨q0, q1, q2, q3, q4, q5, q6⟩, -⟩ := (HR.out.set (fun _ => 0)).all
            have hbF := set7_below hb (Nat.le_refl _) (fun _ => 0)
            go_wp2_with fail
            exact bodyPost_ret (v := (.tuple #[.agg #[.int .i64 0, .int .i64 0, .int .i64 0, .int .i64 0, .int .i64 0, .int .i64 0, .int .i64 0], .int .i64 3])) (by simp [results, Tryd.results10, go_sem, q0, q1, q2, q3, q4, q5, q6]) rfl (HP.out _ hbF)
          · have hn : badN c = false := badN_of hc0 hrd.dig (by
              by_cases e : (s[fr]'hfs) = 48
              · exact .inr (by have : ¬ (fr + 1 < i) := (fun h => hz0 ⟨e, h⟩); omega)
              · exact .inl (by rw [hhd]; intro h; exact e (Option.some.inj h)))
            have hg : ((((s[fr]'hfs).toNat : Int) == 48) = true ∧ decide ((fr : Int) + 1 < (i : Int)) = false ∧ decide (fr + 1 < i) = false) ∨ (((s[fr]'hfs).toNat : Int) == 48) = false := by
              by_cases e : (s[fr]'hfs) = 48
              · have h2 : ¬ fr + 1 < i := fun h => hz0 ⟨e, h⟩
                exact .inl ⟨by rw [e]; rfl, by simp; omega, by simp; omega⟩
              · refine .inr ?_
                rw [beq_eq_false_iff_ne]; intro e'
                exact e (UInt8.toNat_inj.1 (by rw [show (48 : UInt8).toNat = 48 from rfl]; omega))
            by_cases h6 : a ≤ 6
            · have d3 : decide ((6 : Int) < (a : Int)) = false := by simp; omega
              have i6 : (a : Int) < 7 := by omega
              have h7 := HW.out.1 a (by omega)
              have hrv : rV fs c a = cap (valN c) := by rw [hafs]; exact rV_cur fs c
              rw [hrv] at h7
              have hI := RdI.close hrd HCL.out hn (by omega) HW.out
              obtain ⟨y, hy⟩ : ∃ y, y = cap (valN c) := ⟨_, rfl⟩
              rw [← hy] at h7 hI
              rw [← hafs, ← hbg] at hI
              have e1 : IntKind.i64.wrap ((a : Int) + 1) = (a : Int) + 1 := IntWalk.i64_in _ (by omega)
              have e2 : IntKind.i64.wrap ((i : Int) + 1) = (i : Int) + 1 := IntWalk.i64_in _ (by omega)
              clear hrd hw HW hcl hafs hbg hc0 hz0 hpos hbf hhd hn hrv hy
              cases bg with
              | false =>
                have HI' : Hid (RdI S (a + 1) (i + 1) (i + 1) (decide (1440 < y)) wr gg) := Lib.hid hI
                clear hI
                rcases hg with ⟨g3, g4, g4'⟩ | g3
                all_goals
                  go_wp2_with fail
                  exact ⟨⟨a + 1, i + 1, i + 1, decide (1440 < y), by omega, by omega, by omega, rfl, rfl, rfl, rfl, HI', HR, hb⟩, by simp [RowKit.intOf]; omega⟩
              | true =>
                have HI' : Hid (RdI S (a + 1) (i + 1) (i + 1) true wr gg) := Lib.hid hI
                clear hI
                rcases hg with ⟨g3, g4, g4'⟩ | g3
                all_goals
                  go_wp2_with fail
                  exact ⟨⟨a + 1, i + 1, i + 1, true, by omega, by omega, by omega, rfl, rfl, rfl, rfl, HI', HR, hb⟩, by simp [RowKit.intOf]; omega⟩
            · have d3 : decide ((6 : Int) < (a : Int)) = true := by simp; omega
              have HP := Lib.hid (fun w' hb => HNO.out w' (hrd.full (by omega)) hb)
              clear hrd hw HW hcl hafs hbg hc0 hz0 hpos hbf hhd hn h6
              rcases hg with ⟨g3, g4, g4'⟩ | g3
              all_goals
                obtain ⟨⟨a0, a1, a2, a3, a4, a5, a6⟩, ⟨b0, b1, b2, b3, b4, b5, b6⟩⟩ := HR.out.all
                obtain ⟨⟨q0, q1, q2, q3, q4, q5, q6⟩, -⟩ := (HR.out.set (fun _ => 0)).all
                have hbF := set7_below hb (Nat.le_refl _) (fun _ => 0)
                go_wp2_with fail
                exact bodyPost_ret (v := (.tuple #[.agg #[.int .i64 0, .int .i64 0, .int .i64 0, .int .i64 0, .int .i64 0, .int .i64 0, .int .i64 0], .int .i64 3])) (by simp [results, Tryd.results10, go_sem, q0, q1, q2, q3, q4, q5, q6]) rfl (HP.out _ hbF)
        · have g32 : ((s[i].toNat : Int) != 32) = true := by
            rw [bne_iff_ne]; intro e
            exact h32 (UInt8.toNat_inj.1 (by rw [show (32 : UInt8).toNat = 32 from rfl]; omega))
          cases hd : isDg s[i] with
          | false =>
            have HP := Lib.hid (fun w' hb => HNO.out w' (hrd.odd hby h32 hd) hb)
            have hd2 : ((s[i].toNat : Int) < 48) ∨ (¬ ((s[i].toNat : Int) < 48) ∧ (57 : Int) < (s[i].toNat : Int)) := by
              unfold isDg at hd
              simp at hd
              omega
            clear hby h32 hd hrd hw HW hcl hafs hbg
            rcases hd2 with d1 | ⟨d1, d2⟩
            · have d3 : decide ((s[i].toNat : Int) < 48) = true := by simpa using d1
              clear d1
              obtain ⟨⟨a0, a1, a2, a3, a4, a5, a6⟩, ⟨b0, b1, b2, b3, b4, b5, b6⟩⟩ := HR.out.all
              obtain ⟨⟨q0, q1, q2, q3, q4, q5, q6⟩, -⟩ := (HR.out.set (fun _ => 0)).all
              have hbF := set7_below hb (Nat.le_refl _) (fun _ => 0)
              go_wp2_with fail
              exact bodyPost_ret (v := (.tuple #[.agg #[.int .i64 0, .int .i64 0, .int .i64 0, .int .i64 0, .int .i64 0, .int .i64 0, .int .i64 0], .int .i64 3])) (by simp [results, Tryd.results10, go_sem, q0, q1, q2, q3, q4, q5, q6]) rfl (HP.out _ hbF)
            · have d3 : decide ((s[i].toNat : Int) < 48) = false := by simpa using d1
              have d4 : decide ((57 : Int) < (s[i].toNat : Int)) = true := by simpa using d2
              clear d1 d2
              obtain ⟨⟨a0, a1, a2, a3, a4, a5, a6⟩, ⟨b0, b1, b2, b3, b4, b5, b6⟩⟩ := HR.out.all
              obtain ⟨⟨q0, q1, q2, q3, q4, q5, q6⟩, -⟩ := (HR.out.set (fun _ => 0)).all
              have hbF := set7_below hb (Nat.le_refl _) (fun _ => 0)
              go_wp2_with fail
              exact bodyPost_ret (v := (.tuple #[.agg #[.int .i64 0, .int .i64 0, .int .i64 0, .int .i64 0, .int .i64 0, .int .i64 0, .int .i64 0], .int .i64 3])) (by simp [results, Tryd.results10, go_sem, q0, q1, q2, q3, q4, q5, q6]) rfl (HP.out _ hbF)
          | true =>
            have hd2 : 48 ≤ s[i].toNat ∧ s[i].toNat ≤ 57 := by unfold isDg at hd; simpa using hd
            have d1 : decide ((s[i].toNat : Int) < 48) = false := by simp; omega
            have d2 : decide ((57 : Int) < (s[i].toNat : Int)) = false := by simp; omega
            by_cases h6 : a ≤ 6
            · have d3 : decide ((6 : Int) < (a : Int)) = false := by simp; omega
              have i6 : (a : Int) < 7 := by omega
              have h7 := HW.out.1 a (by omega)
              have h7f := HW.out.2 a
              have hrv : rV fs c a = cap (valN c) := by rw [hafs]; exact rV_cur fs c
              rw [hrv] at h7
              have hcb := cap_bd (valN c)
              have hcs := cap_snoc c s[i] hd2.1
              have hrd' := hrd.digit hby h32 hd (by omega)
              obtain ⟨y, hy⟩ : ∃ y, y = cap (valN c) := ⟨_, rfl⟩
              rw [← hy] at h7 hcb hcs
              obtain ⟨d, hd'⟩ : ∃ d : Int, d = (s[i].toNat : Int) - 48 := ⟨_, rfl⟩
              rw [← hd'] at hcs
              have e0 : IntKind.u8.wrap ((s[i].toNat : Int) - 48) = d := by rw [IntKind.wrap_u8]; omega
              have e1 : IntKind.i64.wrap (10 * y) = 10 * y := IntWalk.i64_in _ (by omega)
              have e2 : IntKind.i64.wrap (10 * y + d) = 10 * y + d := IntWalk.i64_in _ (by omega)
              have e3 : IntKind.i64.wrap d = d := IntWalk.i64_in _ (by omega)
              have HG' := Lib.hid (HW.out.put (i := a) (q' := rV fs (c ++ [s[i]])) (v := min (10 * y + d) 100000) (by omega) (by rw [hafs, rV_cur]; exact hcs) (fun j _ hj => rV_more fs c _ j (by omega)))
              have HR' := Lib.hid (HR.out.far (i := a) (v := .int .i64 (min (10 * y + d) 100000)) (h := gg) (by omega))
              have hb6 := hb.setCell (p := ⟨gg, a, none⟩) (Nat.le_of_lt hgr) (.int .i64 (min (10 * y + d) 100000))
              have HI' := fun w' (h : W7 w' gg (rV fs (c ++ [s[i]]))) => (show RdI S a fr (i + 1) bg w' gg from .inl ⟨fs, c ++ [s[i]], hrd', hafs, hbg, h⟩)
              have HI' := Lib.hid HI'
              clear hby h32 hd hd2 hrd hw HW hcl hafs hbg hrv hcs hrd' hy hd'
              go_wp2
              go_region
              all_goals
                go_wp2_with fail
                exact ⟨⟨a, fr, i + 1, bg, by omega, by omega, by omega, rfl, rfl, rfl, rfl, Lib.hid (HI'.out _ HG'.out), Lib.hid HR'.out, hb6.drew⟩, by simp [RowKit.intOf]; omega⟩
            · have d3 : decide ((6 : Int) < (a : Int)) = true := by simp; omega
              have HP := Lib.hid (fun w' hb => HNO.out w' (hrd.full (by omega)) hb)
              clear hby h32 hd hd2 hrd hw HW hcl hafs hbg h6
              obtain ⟨⟨a0, a1, a2, a3, a4, a5, a6⟩, ⟨b0, b1, b2, b3, b4, b5, b6⟩⟩ := HR.out.all
              obtain ⟨⟨q0, q1, q2, q3, q4, q5, q6⟩, -⟩ := (HR.out.set (fun _ => 0)).all
              have hbF := set7_below hb (Nat.le_refl _) (fun _ => 0)
              go_wp2_with fail
              exact bodyPost_ret (v := (.tuple #[.agg #[.int .i64 0, .int .i64 0, .int .i64 0, .int .i64 0, .int .i64 0, .int .i64 0, .int .i64 0], .int .i64 3])) (by simp [results, Tryd.results10, go_sem, q0, q1, q2, q3, q4, q5, q6]) rfl (HP.out _ hbF)
      · have j2 : ¬ (i : Int) < (s.size : Int) := by omega
        have j2' : decide (i < s.size) = false := by simpa using hlt
        have HCL : Hid (Closes S i) := Lib.hid (.inr (by rw [HLN.out]; omega))
        clear hlt
        by_cases hc0 : c = []
        · have g1 : (i == fr) = true := by rw [hc0] at hcl; simp at hcl ⊢; omega
          have g1' : ((i : Int) == (fr : Int)) = true := by rw [hc0] at hcl; simp at hcl ⊢; omega
          have HP := Lib.hid (fun w' hb => HNO.out w' (hrd.bad HCL.out (by rw [hc0]; rfl)) hb)
          clear hrd hw HW hcl hafs hbg hc0
          obtain ⟨⟨a0, a1, a2, a3, a4, a5, a6⟩, ⟨b0, b1, b2, b3, b4, b5, b6⟩⟩ := HR.out.all
          obtain ⟨⟨q0, q1, q2, q3, q4, q5, q6⟩, -⟩ := (HR.out.set (fun _ => 0)).all
          have hbF := set7_below hb (Nat.le_refl _) (fun _ => 0)
          go_wp2_with fail
          exact bodyPost_ret (v := (.tuple #[.agg #[.int .i64 0, .int .i64 0, .int .i64 0, .int .i64 0, .int .i64 0, .int .i64 0, .int .i64 0], .int .i64 3])) (by simp [results, Tryd.results10, go_sem, q0, q1, q2, q3, q4, q5, q6]) rfl (HP.out _ hbF)
        have hpos : 0 < c.length := List.length_pos_iff.2 hc0
        have hfi : fr < i := by omega
        have hfs : fr < s.size := by omega
        have g1 : (i == fr) = false := by simp; omega
        have g1' : ((i : Int) == (fr : Int)) = false := by simp; omega
        have g2 : IntKind.i64.wrap ((fr : Int) + 1) = (fr : Int) + 1 := IntWalk.i64_in _ (by omega)
        have hbf := HGET.out fr hfs
        have hhd := hrd.head hc0
        rw [hbf] at hhd
        have jf : (fr : Int) < (s.size : Int) := by omega
        by_cases hz0 : (s[fr]'hfs) = 48 ∧ fr + 1 < i
        · have g3 : (((s[fr]'hfs).toNat : Int) == 48) = true := by rw [hz0.1]; rfl
          have g4 : decide ((fr : Int) + 1 < (i : Int)) = true := by simp; omega
          have g4' : decide (fr + 1 < i) = true := by simp; omega
          have HP := Lib.hid (fun w' hb => HNO.out w' (hrd.bad HCL.out (badN_zero (by rw [hhd, hz0.1]) (by omega))) hb)
          clear hrd hw HW hcl hafs hbg hc0 hz0 hpos hbf hhd
          obtain ⟨⟨a0, a1, a2, a3, a4, a5, a6⟩, ⟨b0, b1, b2, b3, b4, b5, b6⟩⟩ := HR.out.all
          obtain ⟨⟨q0, q1, q2, q3, q4, q5, q6⟩, -⟩ := (HR.out.set (fun _ => 0)).all
          have hbF := set7_below hb (Nat.le_refl _) (fun _ => 0)
          go_wp2_with fail
          exact bodyPost_ret (v := (.tuple #[.agg #[.int .i64 0, .int .i64 0, .int .i64 0, .int .i64 0, .int .i64 0, .int .i64 0, .int .i64 0], .int .i64 3])) (by simp [results, Tryd.results10, go_sem, q0, q1, q2, q3, q4, q5, q6]) rfl (HP.out _ hbF)
        · have hn : badN c = false := badN_of hc0 hrd.dig (by
            by_cases e : (s[fr]'hfs) = 48
            · exact .inr (by have : ¬ (fr + 1 < i) := (fun h => hz0 ⟨e, h⟩); omega)
            · exact .inl (by rw [hhd]; intro h; exact e (Option.some.inj h)))
          have hg : ((((s[fr]'hfs).toNat : Int) == 48) = true ∧ decide ((fr : Int) + 1 < (i : Int)) = false ∧ decide (fr + 1 < i) = false) ∨ (((s[fr]'hfs).toNat : Int) == 48) = false := by
            by_cases e : (s[fr]'hfs) = 48
            · have h2 : ¬ fr + 1 < i := fun h => hz0 ⟨e, h⟩
              exact .inl ⟨by rw [e]; rfl, by simp; omega, by simp; omega⟩
            · refine .inr ?_
              rw [beq_eq_false_iff_ne]; intro e'
              exact e (UInt8.toNat_inj.1 (by rw [show (48 : UInt8).toNat = 48 from rfl]; omega))
          by_cases h6 : a ≤ 6
          · have d3 : decide ((6 : Int) < (a : Int)) = false := by simp; omega
            have i6 : (a : Int) < 7 := by omega
            have h7 := HW.out.1 a (by omega)
            have hrv : rV fs c a = cap (valN c) := by rw [hafs]; exact rV_cur fs c
            rw [hrv] at h7
            have hI := RdI.close hrd HCL.out hn (by omega) HW.out
            obtain ⟨y, hy⟩ : ∃ y, y = cap (valN c) := ⟨_, rfl⟩
            rw [← hy] at h7 hI
            rw [← hafs, ← hbg] at hI
            have e1 : IntKind.i64.wrap ((a : Int) + 1) = (a : Int) + 1 := IntWalk.i64_in _ (by omega)
            have e2 : IntKind.i64.wrap ((i : Int) + 1) = (i : Int) + 1 := IntWalk.i64_in _ (by omega)
            clear hrd hw HW hcl hafs hbg hc0 hz0 hpos hbf hhd hn hrv hy
            cases bg with
            | false =>
              have HI' : Hid (RdI S (a + 1) (i + 1) (i + 1) (decide (1440 < y)) wr gg) := Lib.hid hI
              clear hI
              rcases hg with ⟨g3, g4, g4'⟩ | g3
              all_goals
                go_wp2_with fail
                exact ⟨⟨a + 1, i + 1, i + 1, decide (1440 < y), by omega, by omega, by omega, rfl, rfl, rfl, rfl, HI', HR, hb⟩, by simp [RowKit.intOf]; omega⟩
            | true =>
              have HI' : Hid (RdI S (a + 1) (i + 1) (i + 1) true wr gg) := Lib.hid hI
              clear hI
              rcases hg with ⟨g3, g4, g4'⟩ | g3
              all_goals
                go_wp2_with fail
                exact ⟨⟨a + 1, i + 1, i + 1, true, by omega, by omega, by omega, rfl, rfl, rfl, rfl, HI', HR, hb⟩, by simp [RowKit.intOf]; omega⟩
          · have d3 : decide ((6 : Int) < (a : Int)) = true := by simp; omega
            have HP := Lib.hid (fun w' hb => HNO.out w' (hrd.full (by omega)) hb)
            clear hrd hw HW hcl hafs hbg hc0 hz0 hpos hbf hhd hn h6
            rcases hg with ⟨g3, g4, g4'⟩ | g3
            all_goals
              obtain ⟨⟨a0, a1, a2, a3, a4, a5, a6⟩, ⟨b0, b1, b2, b3, b4, b5, b6⟩⟩ := HR.out.all
              obtain ⟨⟨q0, q1, q2, q3, q4, q5, q6⟩, -⟩ := (HR.out.set (fun _ => 0)).all
              have hbF := set7_below hb (Nat.le_refl _) (fun _ => 0)
              go_wp2_with fail
              exact bodyPost_ret (v := (.tuple #[.agg #[.int .i64 0, .int .i64 0, .int .i64 0, .int .i64 0, .int .i64 0, .int .i64 0, .int .i64 0], .int .i64 3])) (by simp [results, Tryd.results10, go_sem, q0, q1, q2, q3, q4, q5, q6]) rfl (HP.out _ hbF)
    · have hsl : S.length = s.size := HLN.out
      have j1 : ¬ ((i : Int) ≤ (s.size : Int)) := by omega
      have j1' : decide ((i : Int) ≤ (s.size : Int)) = false := by simp; omega
      have j1'' : decide (i ≤ s.size) = false := by simp; omega
      obtain ⟨E1, E2, E3⟩ := hrdd.end
      by_cases ha : a = 7
      · have hfl : fs.length = 7 := by omega
        have g1 : ((a : Int) != 7) = false := by simp; omega
        cases bg with
        | false =>
          obtain ⟨v1, v2⟩ := E3 hfl hbg.symm
          obtain ⟨V, hV⟩ : ∃ V, V = rV fs [] := ⟨_, rfl⟩
          rw [← hV] at v2 hw
          have HP := Lib.hid (fun w' (hb : Below w.heap.size w w') => (show PrsPost (fieldsL S) w (.returned (.tuple #[.agg #[.int .i64 (V 0), .int .i64 (V 1), .int .i64 (V 2), .int .i64 (V 3), .int .i64 (V 4), .int .i64 (V 5), .int .i64 (V 6)], .int .i64 0])) w' from ⟨by rw [v2 0 (by omega), v2 1 (by omega), v2 2 (by omega), v2 3 (by omega), v2 4 (by omega), v2 5 (by omega), v2 6 (by omega), v1], hb⟩))
          obtain ⟨⟨z0, z1, z2, z3, z4, z5, z6⟩, -⟩ := hw.all
          clear E1 E2 E3 hrdd hw hafs hbg hfl v1 v2 hV hin hsl ha
          obtain ⟨⟨a0, a1, a2, a3, a4, a5, a6⟩, ⟨b0, b1, b2, b3, b4, b5, b6⟩⟩ := HR.out.all
          obtain ⟨⟨q0, q1, q2, q3, q4, q5, q6⟩, -⟩ := (HR.out.set V).all
          have hbF := set7_below hb (Nat.le_refl _) V
          go_wp2_with fail
          exact bodyPost_ret (v := (.tuple #[.agg #[.int .i64 (V 0), .int .i64 (V 1), .int .i64 (V 2), .int .i64 (V 3), .int .i64 (V 4), .int .i64 (V 5), .int .i64 (V 6)], .int .i64 0])) (by simp [results, Tryd.results10, go_sem, q0, q1, q2, q3, q4, q5, q6]) rfl (HP.out _ hbF)
        | true =>
          have HP := Lib.hid (fun w' hb => HNO2.out w' (E2 hfl hbg.symm) hb)
          clear E1 E2 E3 hrdd hw hafs hbg hfl hin hsl ha
          obtain ⟨⟨a0, a1, a2, a3, a4, a5, a6⟩, ⟨b0, b1, b2, b3, b4, b5, b6⟩⟩ := HR.out.all
          obtain ⟨⟨q0, q1, q2, q3, q4, q5, q6⟩, -⟩ := (HR.out.set (fun _ => 0)).all
          have hbF := set7_below hb (Nat.le_refl _) (fun _ => 0)
          go_wp2_with fail
          exact bodyPost_ret (v := (.tuple #[.agg #[.int .i64 0, .int .i64 0, .int .i64 0, .int .i64 0, .int .i64 0, .int .i64 0, .int .i64 0], .int .i64 2])) (by simp [results, Tryd.results10, go_sem, q0, q1, q2, q3, q4, q5, q6]) rfl (HP.out _ hbF)
      · have g1 : ((a : Int) != 7) = true := by simp; omega
        have HP := Lib.hid (fun w' hb => HNO.out w' (E1 (by omega)) hb)
        clear E1 E2 E3 hrdd hw hafs hbg hin hsl ha
        obtain ⟨⟨a0, a1, a2, a3, a4, a5, a6⟩, ⟨b0, b1, b2, b3, b4, b5, b6⟩⟩ := HR.out.all
        obtain ⟨⟨q0, q1, q2, q3, q4, q5, q6⟩, -⟩ := (HR.out.set (fun _ => 0)).all
        have hbF := set7_below hb (Nat.le_refl _) (fun _ => 0)
        go_wp2_with fail
        exact bodyPost_ret (v := (.tuple #[.agg #[.int .i64 0, .int .i64 0, .int .i64 0, .int .i64 0, .int .i64 0, .int .i64 0, .int .i64 0], .int .i64 3])) (by simp [results, Tryd.results10, go_sem, q0, q1, q2, q3, q4, q5, q6]) rfl (HP.out _ hbF)

end Go.Proofs.YtbgilplaefdhbaaDoor
