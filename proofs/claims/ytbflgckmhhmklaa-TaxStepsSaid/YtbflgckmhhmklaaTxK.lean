/-
  What is proved: the contract of tax.Step. Conditions: slices are shorter than 2^62.
-/
import Derived.Test.YtbflgckmhhmklaaTxJ
import Derived.Deep.RegionHeld3
namespace Go.Proofs.Ytbflgckmhhmklaa
open Go Go.RowKit Go.Proofs
set_option linter.unusedVariables false

/-- What is wrong with a step. -/
def stpE (B T b idx of al ex : Int) (f : Nat → Bd) (n : Nat) : Int :=
  if (rgtB B T && fitsB b) = true then (if fitsB (B + b) = true then (if todE (B + b) idx of al ex f n = 0 then (if fitsB (todV (B + b) idx of al ex f n - T + ex) = true then 0 else 9) else todE (B + b) idx of al ex f n) else 9) else 2
/-- The sums behind a step, and what is withheld. -/
def stpV (B T b idx of al ex : Int) (f : Nat → Bd) (n : Nat) : Int × Int × Int :=
  if stpE B T b idx of al ex f n = 0 then (B + b, todV (B + b) idx of al ex f n, todV (B + b) idx of al ex f n - T + ex) else (B, T, 0)

set_option maxHeartbeats 8000000 in
set_option maxRecDepth 100000 in
theorem Step_any (B T b idx of al ex : Int) (p : Option Addr) (n cp : Nat) (f : Nat → Bd) (w : World) (hn : n ≤ 4611686018427387904) (hf : BdIn w p n f) :
    Calls Try.prog 11 #[.agg #[.int .i64 B, .int .i64 T], .int .i64 b, .int .i64 idx, .int .i64 of, .agg #[.int .i64 al, .int .i64 ex, .slice p n cp]] w fun e w' =>
      e = .returned (.tuple #[.agg #[.int .i64 (stpV B T b idx of al ex f n).1, .int .i64 (stpV B T b idx of al ex f n).2.1], .int .i64 (stpV B T b idx of al ex f n).2.2, .int .i64 (stpE B T b idx of al ex f n)]) ∧ Below w.heap.size w w' := by
  have HR := Lib.hid (fun W => isRight_any B T W)
  have HF := Lib.hid (fun W => fits_any b W)
  have HR2 := Lib.hid (fun W => isRight_any (B + b) 0 W)
  have HD := Lib.hid (fun W hb => ToDate_any (B + b) idx of al ex p n cp f W hn (hf.kp (w' := W) hb))
  have HF2 := Lib.hid (fun W => fits_any (todV (B + b) idx of al ex f n - T + ex) W)
  have hE : stpE B T b idx of al ex f n = if (rgtB B T && fitsB b) = true then (if fitsB (B + b) = true then (if todE (B + b) idx of al ex f n = 0 then (if fitsB (todV (B + b) idx of al ex f n - T + ex) = true then 0 else 9) else todE (B + b) idx of al ex f n) else 9) else 2 := rfl
  have hV : stpV B T b idx of al ex f n = if stpE B T b idx of al ex f n = 0 then (B + b, todV (B + b) idx of al ex f n, todV (B + b) idx of al ex f n - T + ex) else (B, T, 0) := rfl
  have hx := fun h => (okT_iff.1 (@tod_ex (B + b) idx of al ex f n h)).2.2.2
  obtain ⟨v0, v1⟩ := todV_bd (B + b) idx of al ex f n
  have hrg : rgtB B T = (fitsB B && fitsB T) := rfl
  have hrb : rgtB B T = true → (-1125899906842624 ≤ B ∧ B ≤ 1125899906842624) ∧ -1125899906842624 ≤ T ∧ T ≤ 1125899906842624 := fun h => by
    rw [hrg, Bool.and_eq_true, fitsB_iff, fitsB_iff] at h; exact h
  have hr2 : rgtB (B + b) 0 = fitsB (B + b) := by unfold rgtB; rw [show fitsB 0 = true from rfl, Bool.and_true]
  rw [hr2] at HR2
  have hbb := @fitsB_iff b
  generalize stpV B T b idx of al ex f n = V at hV ⊢
  generalize stpE B T b idx of al ex f n = E at hE hV ⊢
  generalize todV (B + b) idx of al ex f n = TV at HD HF2 hE hV v0 v1
  generalize todE (B + b) idx of al ex f n = TE at HD hE hx
  clear hrg hr2
  generalize rgtB B T = r1 at HR hE hrb
  generalize fitsB b = r2 at HF hE hbb
  obtain ⟨W0, hW0⟩ : ∃ W0, W0 = (((w.alloc (.cells #[.int .i64 B, .int .i64 T] 32)).alloc (.cells #[.int .i64 al, .int .i64 ex, .slice p n cp] 25)).alloc (.cells #[.int .i64 0, .int .i64 0] 32)) := ⟨_, rfl⟩
  have hb3 : Below w.heap.size w W0 := by rw [hW0]; exact (((Below.refl w.heap.size w).alloc (Nat.le_refl _) _).alloc (by simp) _).alloc (by simp; omega) _
  have hsz : W0.heap.size = w.heap.size + 3 := by rw [hW0]; simp
  have z1 : (w.alloc (.cells #[.int .i64 B, .int .i64 T] 32)).heap.size = w.heap.size + 1 := by simp
  have z2 : ((w.alloc (.cells #[.int .i64 B, .int .i64 T] 32)).alloc (.cells #[.int .i64 al, .int .i64 ex, .slice p n cp] 25)).heap.size = w.heap.size + 2 := by simp
  have h4 : C2 W0 w.heap.size B T := by
    rw [hW0]
    exact (C2.new w B T _).kp (((Below.refl _ _).alloc (Nat.le_refl _) _).alloc (by simp) _)
  have hS : Cd W0 (w.heap.size + 1) al ex p n cp := by
    rw [hW0, ← z1]
    exact (Cd.new _ al ex p n cp _).kp ((Below.refl _ _).alloc (Nat.le_refl _) _)
  have hR : Rm2 W0 (w.heap.size + 1 + 1) := by
    rw [hW0]
    have := Rm2.new ((w.alloc (.cells #[.int .i64 B, .int .i64 T] 32)).alloc (.cells #[.int .i64 al, .int .i64 ex, .slice p n cp] 25)) (.int .i64 0) (.int .i64 0) 32
    rw [z2] at this
    exact this
  have KP : Hid (∀ w', Below (w.heap.size + 2) W0 w' → C2 w' w.heap.size B T ∧ Cd w' (w.heap.size + 1) al ex p n cp ∧ Below w.heap.size w w') :=
    Lib.hid (fun w' h => ⟨h4.kb (by omega) h, hS.kb (by omega) h, hb3.trans (h.mono (by omega))⟩)
  have hge : w.heap.size + 2 ≤ W0.heap.size := by omega
  clear z1 z2
  obtain ⟨c0, c1⟩ := h4
  obtain ⟨s0, s1, s2⟩ := hS
  replace hE := Lib.hid hE
  replace hV := Lib.hid hV
  replace hx := Lib.hid hx
  replace hrb := Lib.hid hrb
  replace hbb := Lib.hid hbb
  clear hf
  go_enter Try.func11, Try.ntmps11
  go_upto_region 1 with fail
  rw [← hW0]
  clear hW0
  go_wp2_with fail
  refine (HR.out _).mono ?_
  rintro e w1 ⟨rfl, hb1⟩
  have hk1 : Below (w.heap.size + 2) W0 w1 := hb1.mono hge
  have hr1 : Rm2 w1 (w.heap.size + 1 + 1) := hR.below hb1
  clear c0 c1 s0 s1 s2 hb1 hR
  obtain ⟨⟨c0, c1⟩, ⟨s0, s1, s2⟩, hw1⟩ := KP.out _ hk1
  cases r1
  case false =>
    obtain rfl : E = 2 := by have h := hE.out; simpa using h
    obtain rfl : V = (B, T, 0) := by have h := hV.out; simpa using h
    clear hE hV KP hw1
    have hT : C2 ((w1.setCell ⟨w.heap.size + 1 + 1, 0, none⟩ (.int .i64 (B))).setCell ⟨w.heap.size + 1 + 1, 1, none⟩ (.int .i64 (T))) (w.heap.size + 1 + 1) (B) (T) := hr1.c2 _ _
    have hbF : Below (w.heap.size + 2) W0 ((w1.setCell ⟨w.heap.size + 1 + 1, 0, none⟩ (.int .i64 (B))).setCell ⟨w.heap.size + 1 + 1, 1, none⟩ (.int .i64 (T))) := put2_below hk1 (Nat.le_refl _) _ _
    obtain ⟨x0, x1, ⟨a0, a1⟩, b0, b1⟩ := hr1.all
    go_wp2
    generalize ((w1.setCell ⟨w.heap.size + 1 + 1, 0, none⟩ (.int .i64 (B))).setCell ⟨w.heap.size + 1 + 1, 1, none⟩ (.int .i64 (T))) = WF at hT hbF ⊢
    obtain ⟨t0, t1⟩ := hT
    exact bodyPost_ret (v := .tuple #[.agg #[.int .i64 (B), .int .i64 (T)], .int .i64 0, .int .i64 2]) (by simp [results, Try.results11, go_sem, t0, t1]) rfl ⟨rfl, hb3.trans (hbF.mono (by omega))⟩

  case true =>
  obtain ⟨⟨B0, B1⟩, T0, T1⟩ := hrb.out (by trivial)
  go_wp2_with fail
  refine (HF.out _).mono ?_
  rintro e w2 ⟨rfl, rfl⟩
  cases r2
  case false =>
    obtain rfl : E = 2 := by have h := hE.out; simpa using h
    obtain rfl : V = (B, T, 0) := by have h := hV.out; simpa using h
    clear hE hV KP hw1
    have hT : C2 ((w1.setCell ⟨w.heap.size + 1 + 1, 0, none⟩ (.int .i64 (B))).setCell ⟨w.heap.size + 1 + 1, 1, none⟩ (.int .i64 (T))) (w.heap.size + 1 + 1) (B) (T) := hr1.c2 _ _
    have hbF : Below (w.heap.size + 2) W0 ((w1.setCell ⟨w.heap.size + 1 + 1, 0, none⟩ (.int .i64 (B))).setCell ⟨w.heap.size + 1 + 1, 1, none⟩ (.int .i64 (T))) := put2_below hk1 (Nat.le_refl _) _ _
    obtain ⟨x0, x1, ⟨a0, a1⟩, b0, b1⟩ := hr1.all
    go_wp2
    generalize ((w1.setCell ⟨w.heap.size + 1 + 1, 0, none⟩ (.int .i64 (B))).setCell ⟨w.heap.size + 1 + 1, 1, none⟩ (.int .i64 (T))) = WF at hT hbF ⊢
    obtain ⟨t0, t1⟩ := hT
    exact bodyPost_ret (v := .tuple #[.agg #[.int .i64 (B), .int .i64 (T)], .int .i64 0, .int .i64 2]) (by simp [results, Try.results11, go_sem, t0, t1]) rfl ⟨rfl, hb3.trans (hbF.mono (by omega))⟩

  case true =>
  have hbo := hbb.out
  simp only [true_iff] at hbo
  obtain ⟨q0, q1⟩ := hbo
  have hE2 : E = if fitsB (B + b) = true then (if TE = 0 then (if fitsB (TV - T + ex) = true then 0 else 9) else TE) else 9 := by have h := hE.out; simpa using h
  replace hE2 := Lib.hid hE2
  have hgt := hr1.lt
  have hg0 : w.heap.size < w1.heap.size := by omega
  have hg1 : w.heap.size + 1 < w1.heap.size := by omega
  have hkn : Below (w.heap.size + 2) W0 (w1.alloc (.cells #[.int .i64 (B + b), .int .i64 0] 32)) := hk1.alloc (Nat.le_of_lt hgt) _
  have hrn : Rm2 (w1.alloc (.cells #[.int .i64 (B + b), .int .i64 0] 32)) (w.heap.size + 1 + 1) := hr1.below ((Below.refl _ _).alloc (Nat.le_refl _) _)
  have h9 : C2 (w1.alloc (.cells #[.int .i64 (B + b), .int .i64 0] 32)) w1.heap.size (B + b) 0 := C2.new _ _ _ _
  have hr9 : Rm2 (w1.alloc (.cells #[.int .i64 (B + b), .int .i64 0] 32)) w1.heap.size := Rm2.new _ _ _ _
  clear hE hbb hrb hk1
  go_wp2_with fail
  generalize (w1.alloc (.cells #[.int .i64 (B + b), .int .i64 0] 32)) = w3 at hkn hrn h9 hr9 ⊢
  generalize w1.heap.size = g9 at h9 hr9 hgt ⊢
  clear hr1 c0 c1 s0 s1 s2 hg0 hg1
  refine (HR2.out _).mono ?_
  rintro e w4 ⟨rfl, hb4⟩
  have hk4 : Below (w.heap.size + 2) W0 w4 := hkn.trans (hb4.mono (Nat.le_of_lt hrn.lt))
  have hr4 : Rm2 w4 (w.heap.size + 1 + 1) := hrn.below hb4
  have hs4 : Rm2 w4 g9 := hr9.below hb4
  have h94 := h9.kp hb4
  clear hkn hrn h9 hr9 hb4
  obtain ⟨⟨c0, c1⟩, ⟨s0, s1, s2⟩, hw4⟩ := KP.out _ hk4
  by_cases hf1 : fitsB (B + b) = true
  case neg =>
    obtain rfl : E = 9 := by rw [hE2.out, if_neg hf1]
    obtain rfl : V = (B, T, 0) := by have h := hV.out; simpa using h
    rw [Bool.not_eq_true] at hf1
    rw [hf1]
    clear hE2 hV KP hw1 h94 hs4 hf1
    have hT : C2 ((w4.setCell ⟨w.heap.size + 1 + 1, 0, none⟩ (.int .i64 (B))).setCell ⟨w.heap.size + 1 + 1, 1, none⟩ (.int .i64 (T))) (w.heap.size + 1 + 1) (B) (T) := hr4.c2 _ _
    have hbF : Below (w.heap.size + 2) W0 ((w4.setCell ⟨w.heap.size + 1 + 1, 0, none⟩ (.int .i64 (B))).setCell ⟨w.heap.size + 1 + 1, 1, none⟩ (.int .i64 (T))) := put2_below hk4 (Nat.le_refl _) _ _
    obtain ⟨x0, x1, ⟨a0, a1⟩, b0, b1⟩ := hr4.all
    go_wp2
    generalize ((w4.setCell ⟨w.heap.size + 1 + 1, 0, none⟩ (.int .i64 (B))).setCell ⟨w.heap.size + 1 + 1, 1, none⟩ (.int .i64 (T))) = WF at hT hbF ⊢
    obtain ⟨t0, t1⟩ := hT
    exact bodyPost_ret (v := .tuple #[.agg #[.int .i64 (B), .int .i64 (T)], .int .i64 0, .int .i64 9]) (by simp [results, Try.results11, go_sem, t0, t1]) rfl ⟨rfl, hb3.trans (hbF.mono (by omega))⟩

  case pos =>
  rw [hf1]
  have hE3 : E = if TE = 0 then (if fitsB (TV - T + ex) = true then 0 else 9) else TE := by rw [hE2.out, if_pos hf1]
  replace hE3 := Lib.hid hE3
  clear hE2 hf1
  obtain ⟨n0, n1⟩ := h94
  go_wp2_with fail
  refine (HD.out _ hw4).mono ?_
  rintro e w5 ⟨rfl, hb5⟩
  have hk5 : Below (w.heap.size + 2) W0 w5 := hk4.trans (hb5.mono (Nat.le_of_lt hr4.lt))
  have hr5 : Rm2 w5 (w.heap.size + 1 + 1) := hr4.below hb5
  have hs5 : Rm2 w5 g9 := hs4.below hb5
  have h95 : C2 w5 g9 (B + b) 0 := C2.kp ⟨n0, n1⟩ hb5
  clear n0 n1 c0 c1 s0 s1 s2 hk4 hr4 hs4 hb5 hw4 hw1
  have HN : Below g9 w5 (w5.setCell ⟨g9, 1, none⟩ (.int .i64 TV)) := (Below.refl g9 w5).setCell (Nat.le_refl _) _
  have HK : Below (w.heap.size + 2) W0 (w5.setCell ⟨g9, 1, none⟩ (.int .i64 TV)) := hk5.trans (HN.mono (by omega))
  have HRM : Rm2 (w5.setCell ⟨g9, 1, none⟩ (.int .i64 TV)) (w.heap.size + 1 + 1) := hr5.kb hgt HN
  have H9 : C2 (w5.setCell ⟨g9, 1, none⟩ (.int .i64 TV)) g9 (B + b) TV := ⟨(set_off (by omega)).trans h95.1, set_in h95.2⟩
  obtain ⟨x0, x1, ⟨a0, a1⟩, b0, b1⟩ := hs5.all
  obtain ⟨n0, n1⟩ := h95
  clear a0 a1
  go_upto_region 8 with fail
  generalize (w5.setCell ⟨g9, 1, none⟩ (.int .i64 TV)) = w6 at HK HRM H9 ⊢
  clear n0 n1 b0 b1 hr5 hk5 hs5 HN
  obtain ⟨⟨c0, c1⟩, ⟨s0, s1, s2⟩, hw6⟩ := KP.out _ HK
  by_cases hT0 : TE = 0
  case neg =>
    have dT : (TE != 0) = true := by simpa using hT0
    have hE9 : E = TE := by rw [hE3.out, if_neg hT0]
    obtain rfl : V = (B, T, 0) := by rw [hV.out, hE9, if_neg hT0]
    subst hE9
    clear hT0 hE3 hV KP hw6 H9
    have hT : C2 ((w6.setCell ⟨w.heap.size + 1 + 1, 0, none⟩ (.int .i64 (B))).setCell ⟨w.heap.size + 1 + 1, 1, none⟩ (.int .i64 (T))) (w.heap.size + 1 + 1) (B) (T) := HRM.c2 _ _
    have hbF : Below (w.heap.size + 2) W0 ((w6.setCell ⟨w.heap.size + 1 + 1, 0, none⟩ (.int .i64 (B))).setCell ⟨w.heap.size + 1 + 1, 1, none⟩ (.int .i64 (T))) := put2_below HK (Nat.le_refl _) _ _
    obtain ⟨x0, x1, ⟨a0, a1⟩, b0, b1⟩ := HRM.all
    go_wp2
    generalize ((w6.setCell ⟨w.heap.size + 1 + 1, 0, none⟩ (.int .i64 (B))).setCell ⟨w.heap.size + 1 + 1, 1, none⟩ (.int .i64 (T))) = WF at hT hbF ⊢
    obtain ⟨t0, t1⟩ := hT
    exact bodyPost_ret (v := .tuple #[.agg #[.int .i64 (B), .int .i64 (T)], .int .i64 0, .int .i64 E]) (by simp [results, Try.results11, go_sem, t0, t1]) rfl ⟨rfl, hb3.trans (hbF.mono (by omega))⟩

  case pos =>
  obtain ⟨y0, y1⟩ := hx.out hT0
  subst hT0
  have hE5 : E = if fitsB (TV - T + ex) = true then 0 else 9 := by rw [hE3.out, if_pos rfl]
  obtain ⟨n0, n1⟩ := H9
  by_cases hf2 : fitsB (TV - T + ex) = true
  case neg =>
    obtain rfl : E = 9 := by rw [hE5, if_neg hf2]
    obtain rfl : V = (B, T, 0) := by have h := hV.out; simpa using h
    rw [Bool.not_eq_true] at hf2
    rw [hf2] at HF2
    clear hf2 hE3 hV KP hw6 hE5 hx
    go_wp2_with fail
    refine (HF2.out _).mono ?_
    rintro e w7 ⟨rfl, rfl⟩
    have hT : C2 ((w6.setCell ⟨w.heap.size + 1 + 1, 0, none⟩ (.int .i64 (B))).setCell ⟨w.heap.size + 1 + 1, 1, none⟩ (.int .i64 (T))) (w.heap.size + 1 + 1) (B) (T) := HRM.c2 _ _
    have hbF : Below (w.heap.size + 2) W0 ((w6.setCell ⟨w.heap.size + 1 + 1, 0, none⟩ (.int .i64 (B))).setCell ⟨w.heap.size + 1 + 1, 1, none⟩ (.int .i64 (T))) := put2_below HK (Nat.le_refl _) _ _
    obtain ⟨x0, x1, ⟨a0, a1⟩, b0, b1⟩ := HRM.all
    go_wp2
    generalize ((w6.setCell ⟨w.heap.size + 1 + 1, 0, none⟩ (.int .i64 (B))).setCell ⟨w.heap.size + 1 + 1, 1, none⟩ (.int .i64 (T))) = WF at hT hbF ⊢
    obtain ⟨t0, t1⟩ := hT
    exact bodyPost_ret (v := .tuple #[.agg #[.int .i64 (B), .int .i64 (T)], .int .i64 0, .int .i64 9]) (by simp [results, Try.results11, go_sem, t0, t1]) rfl ⟨rfl, hb3.trans (hbF.mono (by omega))⟩

  case pos =>
    obtain rfl : E = 0 := by rw [hE5, if_pos hf2]
    obtain rfl : V = (B + b, TV, TV - T + ex) := by have h := hV.out; simpa using h
    rw [hf2] at HF2
    clear hf2 hE3 hV KP hw6 hE5 hx
    go_wp2_with fail
    refine (HF2.out _).mono ?_
    rintro e w7 ⟨rfl, rfl⟩
    have hT : C2 ((w6.setCell ⟨w.heap.size + 1 + 1, 0, none⟩ (.int .i64 (B + b))).setCell ⟨w.heap.size + 1 + 1, 1, none⟩ (.int .i64 (TV))) (w.heap.size + 1 + 1) (B + b) (TV) := HRM.c2 _ _
    have hbF : Below (w.heap.size + 2) W0 ((w6.setCell ⟨w.heap.size + 1 + 1, 0, none⟩ (.int .i64 (B + b))).setCell ⟨w.heap.size + 1 + 1, 1, none⟩ (.int .i64 (TV))) := put2_below HK (Nat.le_refl _) _ _
    obtain ⟨x0, x1, ⟨a0, a1⟩, b0, b1⟩ := HRM.all
    go_wp2
    generalize ((w6.setCell ⟨w.heap.size + 1 + 1, 0, none⟩ (.int .i64 (B + b))).setCell ⟨w.heap.size + 1 + 1, 1, none⟩ (.int .i64 (TV))) = WF at hT hbF ⊢
    obtain ⟨t0, t1⟩ := hT
    exact bodyPost_ret (v := .tuple #[.agg #[.int .i64 (B + b), .int .i64 (TV)], .int .i64 (TV - T + ex), .int .i64 0]) (by simp [results, Try.results11, go_sem, t0, t1]) rfl ⟨rfl, hb3.trans (hbF.mono (by omega))⟩


end Go.Proofs.Ytbflgckmhhmklaa
