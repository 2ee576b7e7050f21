/-
  What is proved: the contract of sheet.Sum. Conditions: the entries lie in memory as the contract says.
-/
import Derived.Test.YtlfflnfodnegnaaSkD
import Derived.WalkMore
import Derived.Deep.LoopGhost
namespace Go.Proofs.Ytlfflnfodnegnaa
open Go Go.RowKit Go.Proofs
set_option linter.unusedVariables false

/-- Hours in a block of their own. -/
def HrBox (W : World) (g : Nat) (h : Hr) : Prop := (W.cell? ⟨g, 0, none⟩ = some (.int .i64 h.1) ∧ W.cell? ⟨g, 1, none⟩ = some (.int .i64 h.2.1) ∧ W.cell? ⟨g, 2, none⟩ = some (.int .i64 h.2.2)) ∧ W.frozen? ⟨g, 0, none⟩ = false ∧ W.frozen? ⟨g, 1, none⟩ = false ∧ W.frozen? ⟨g, 2, none⟩ = false
theorem HrBox.lt {W : World} {g : Nat} {h : Hr} (x : HrBox W g h) : g < W.heap.size := World.block_lt_of_cell? _ _ x.1.1
theorem HrBox.block {W W' : World} {g : Nat} {h : Hr} (x : HrBox W g h) (e : W'.heap[g]? = W.heap[g]?) : HrBox W' g h := by
  obtain ⟨⟨a, b, c⟩, d, f, i⟩ := x
  exact ⟨⟨(World.cell?_of_block (w := W) (a := ⟨g, 0, none⟩) e).trans a, (World.cell?_of_block (w := W) (a := ⟨g, 1, none⟩) e).trans b, (World.cell?_of_block (w := W) (a := ⟨g, 2, none⟩) e).trans c⟩, (World.frozen?_of_block (w := W) (a := ⟨g, 0, none⟩) e).trans d, (World.frozen?_of_block (w := W) (a := ⟨g, 1, none⟩) e).trans f, (World.frozen?_of_block (w := W) (a := ⟨g, 2, none⟩) e).trans i⟩
theorem HrBox.below {W W' : World} {g : Nat} {h : Hr} (x : HrBox W g h) (hb : Below W.heap.size W W') : HrBox W' g h := x.block (hb.block g x.lt)
theorem HrBox.grown {W W' : World} {g : Nat} {h : Hr} {row : Option Nat} (x : HrBox W g h) (hb : W.grownBy W' row) (hne : row ≠ some g) : HrBox W' g h := x.block (hb.block g x.lt (fun e => hne e.symm))
theorem HrBox.new (w : World) (h : Hr) (t : TypeId) : HrBox (w.alloc (.cells #[.int .i64 h.1, .int .i64 h.2.1, .int .i64 h.2.2] t)) w.heap.size h := ⟨⟨new_at _ _ _ 0, new_at _ _ _ 1, new_at _ _ _ 2⟩, new_unfrozen _ _ _ 0, new_unfrozen _ _ _ 1, new_unfrozen _ _ _ 2⟩
/-- Other hours written there. -/
def hset (W : World) (g : Nat) (h : Hr) : World := ((W.setCell ⟨g, 0, none⟩ (.int .i64 h.1)).setCell ⟨g, 1, none⟩ (.int .i64 h.2.1)).setCell ⟨g, 2, none⟩ (.int .i64 h.2.2)
theorem HrBox.set {W : World} {g : Nat} {h : Hr} (x : HrBox W g h) (k : Hr) : HrBox (hset W g k) g k := by
  obtain ⟨⟨a, b, c⟩, d, f, i⟩ := x
  exact ⟨set3 a b c, by unfold hset; simp only [World.frozen?_setCell]; exact d, by unfold hset; simp only [World.frozen?_setCell]; exact f, by unfold hset; simp only [World.frozen?_setCell]; exact i⟩
theorem hset_block {W : World} {g b : Nat} (h : Hr) (hne : b ≠ g) : (hset W g h).heap[b]? = W.heap[b]? := by
  unfold hset
  rw [Below.heap_setCell _ _ _ _ hne, Below.heap_setCell _ _ _ _ hne, Below.heap_setCell _ _ _ _ hne]
theorem hset_below {B : Nat} {a W : World} {g : Nat} (h : Below B a W) (hg : B ≤ g) (k : Hr) : Below B a (hset W g k) := ((h.setCell (p := ⟨g, 0, none⟩) hg _).setCell (p := ⟨g, 1, none⟩) hg _).setCell (p := ⟨g, 2, none⟩) hg _

/-- What Sum answers. -/
def sumR (f : Nat → En) (n : Nat) (D W s t : Int) : Hr := if chk f n D W = 0 then sumP D W s t f n else (0, 0, 0)
/-- The weeks of the first entries. -/
def monsL (f : Nat → En) : Nat → List Int
  | 0 => []
  | k + 1 => mon (f k).1 :: monsL f k
theorem sm_of {h : Hr} {n : Nat} (hn : n ≤ 4096) (h1 : 0 ≤ h.1 ∧ h.1 ≤ 1440 * n) (h2 : 0 ≤ h.2.1 ∧ h.2.1 ≤ 1440 * n) (h3 : 0 ≤ h.2.2 ∧ h.2.2 ≤ 1440 * n) : Sm h := ⟨by omega, by omega, by omega⟩
theorem hrI_sm {f : Nat → En} {n i : Nat} {D W : Int} (h : Rt f n) (hL : Lim D W) (hi : i < n) : Sm (hrI D W f i) := by
  obtain ⟨-, h0, h1, h2, h3⟩ := h.1 i hi
  obtain ⟨p, q, r, s'⟩ := hrs_bd (W := W) (A := (stt D W f i (mon (f i).1)).1) hL.1 h0
  unfold hrI
  exact ⟨by omega, by omega, by omega⟩

set_option maxHeartbeats 4000000 in
set_option maxRecDepth 100000 in
theorem Sum_any (f : Nat → En) (p : Option Addr) (n c : Nat) (D W s t : Int) (w : World) (h : EntsIn w p n f) :
    Calls Try.prog 10 #[.slice p n c, .agg #[.int .i64 D, .int .i64 W], .agg #[.int .i64 s, .int .i64 t]] w fun e w' => e = .returned (.tuple #[.agg #[.int .i64 (sumR f n D W s t).1, .int .i64 (sumR f n D W s t).2.1, .int .i64 (sumR f n D W s t).2.2], .int .i64 (chk f n D W)]) ∧ Below w.heap.size w w' := by
  obtain ⟨R, hR⟩ : ∃ R, R = sumR f n D W s t := ⟨_, rfl⟩
  obtain ⟨C, hC⟩ : ∃ C, C = chk f n D W := ⟨_, rfl⟩
  obtain ⟨W3, hW3⟩ : ∃ W3, W3 = ((w.alloc (.cells #[.int .i64 D, .int .i64 W] 24)).alloc (.cells #[.int .i64 s, .int .i64 t] 27)).alloc (.cells #[.int .i64 0, .int .i64 0, .int .i64 0] 30) := ⟨_, rfl⟩
  have hz3 : W3.heap.size = w.heap.size + 1 + 1 + 1 := by rw [hW3]; simp
  have hb0 : Below w.heap.size w W3 := by rw [hW3]; exact (((Below.refl w.heap.size w).alloc (Nat.le_refl _) _).alloc (by simp) _).alloc (by simp; omega) _
  have hc : W3.cell? ⟨w.heap.size, 0, none⟩ = some (.int .i64 D) ∧ W3.cell? ⟨w.heap.size, 1, none⟩ = some (.int .i64 W) ∧ W3.cell? ⟨w.heap.size + 1, 0, none⟩ = some (.int .i64 s) ∧ W3.cell? ⟨w.heap.size + 1, 1, none⟩ = some (.int .i64 t) ∧ HrBox W3 (w.heap.size + 1 + 1) (0, 0, 0) := by
    obtain ⟨Wa, hWa⟩ : ∃ Wa, Wa = w.alloc (.cells #[.int .i64 D, .int .i64 W] 24) := ⟨_, rfl⟩
    obtain ⟨Wb, hWb⟩ : ∃ Wb, Wb = Wa.alloc (.cells #[.int .i64 s, .int .i64 t] 27) := ⟨_, rfl⟩
    have za : Wa.heap.size = w.heap.size + 1 := by rw [hWa]; simp
    have zb : Wb.heap.size = w.heap.size + 1 + 1 := by rw [hWb, World.size_alloc, za]
    rw [hW3, ← hWa, ← hWb]
    refine ⟨?_, ?_, ?_, ?_, ?_⟩
    · rw [World.cell?_alloc_lt _ _ _ (by show w.heap.size < _; omega), hWb, World.cell?_alloc_lt _ _ _ (by show w.heap.size < _; omega), hWa, new_at]; rfl
    · rw [World.cell?_alloc_lt _ _ _ (by show w.heap.size < _; omega), hWb, World.cell?_alloc_lt _ _ _ (by show w.heap.size < _; omega), hWa, new_at]; rfl
    · rw [World.cell?_alloc_lt _ _ _ (by show w.heap.size + 1 < _; omega), hWb, ← za, new_at]; rfl
    · rw [World.cell?_alloc_lt _ _ _ (by show w.heap.size + 1 < _; omega), hWb, ← za, new_at]; rfl
    · rw [← zb]; exact HrBox.new Wb (0, 0, 0) _
  obtain ⟨c0, c1, c2, c3, c4⟩ := hc
  have HK := check_any f p n c D W W3 (h.below hb0)
  rw [← hC] at HK
  have hHC := Lib.hid hC
  rw [← hR, ← hC]
  by_cases h0 : C = 0
  · rw [h0] at HK ⊢
    have hck := chk_ok.1 (hC.symm.trans h0)
    obtain ⟨hn, hr, hLim⟩ := hck
    have hRs : R = sumP D W s t f n := by rw [hR]; unfold sumR; rw [if_pos (hC.symm.trans h0)]
    have hmm := @run_makeMap Try.prog
    have HE := Lib.hid h
    replace HK := Lib.hid HK
    have HRS := Lib.hid hRs
    have HRT := Lib.hid hr
    have HLM := Lib.hid hLim
    have HT := Lib.hid hn
    clear hC hR h0 hRs h hr hLim hn C hHC
    go_enter Try.func10, Try.ntmps10
    go_wp2
    rw [← hW3]
    clear hW3
    go_step3
    go_wp2_with fail
    refine (HK.out).mono ?_
    rintro e w4 ⟨rfl, hb4⟩
    have hz4 := hb4.size
    have hbw := hb0.trans (hb4.mono (by omega))
    obtain ⟨g, hg⟩ : ∃ g, g = w4.heap.size := ⟨_, rfl⟩
    obtain ⟨W6, hW6⟩ : ∃ W6, W6 = (w4.alloc (.cells #[.int .i64 0, .int .i64 0, .int .i64 0] 30)).alloc (.map #[] 0) := ⟨_, rfl⟩
    have hz5 : (w4.alloc (.cells #[.int .i64 0, .int .i64 0, .int .i64 0] 30)).heap.size = g + 1 := by rw [hg]; simp
    have hb6 : Below g w4 W6 := by rw [hW6, hg]; exact ((Below.refl w4.heap.size w4).alloc (Nat.le_refl _) _).alloc (by simp) _
    have hm6 : MapIs W6 (g + 1) 0 (fun _ => (0, 0, 0, 0)) [] := by
      have := MapIs.made (w4.alloc (.cells #[.int .i64 0, .int .i64 0, .int .i64 0] 30))
      rwa [hz5, ← hW6] at this
    have hx6 : HrBox W6 g (0, 0, 0) := by
      have := HrBox.new w4 (0, 0, 0) 30
      rw [← hg] at this
      rw [hW6]
      exact this.below ((Below.refl _ _).alloc (Nat.le_refl _) _)
    have e0 := stay hb4 c0
    have e1 := stay hb4 c1
    have e2 := stay hb4 c2
    have e3 := stay hb4 c3
    have e4 := c4.below hb4
    have HE4 := Lib.hid (HE.out.below hbw)
    rw [← hg] at hz4
    clear hb0 hb4 c0 c1 c2 c3 c4 HK HE
    go_wp2
    go_step3
    go_wp2
    rw [← hW6, ← hg]
    clear hW6 hz5
    have HG := Lib.hid hg
    clear hg
    go_loopg [24] n (fun gk iv wr => ∃ k : Nat, k + gk = n ∧ iv = .int .i64 k ∧ Hid (MapIs wr (g + 1) k (stt D W f k) (monsL f k)) ∧ Hid (HrBox wr g (sumP D W s t f k)) ∧ Hid (Below g w4 wr))
    case atStart => exact ⟨0, by omega, rfl, Lib.hid hm6, Lib.hid hx6, Lib.hid hb6⟩
    case round =>
      obtain ⟨k, hk, rfl, HM, HX, HB⟩ := hrel
      have hgr := HX.out.lt
      have hmr := HM.out.lt
      have z0 : w.heap.size < wr.heap.size := by omega
      have z1 : w.heap.size + 1 < wr.heap.size := by omega
      have z2 : w.heap.size + 1 + 1 < wr.heap.size := by omega
      have sm : ∀ {x j v}, x < g → w4.cell? ⟨x, j, none⟩ = some v → wr.cell? ⟨x, j, none⟩ = some v := fun hx h => (HB.out.cell (p := ⟨_, _, none⟩) hx).trans h
      have y0 := sm (by omega) e0
      have y1 := sm (by omega) e1
      have y2 := sm (by omega) e2
      have y3 := sm (by omega) e3
      have y4 : HrBox wr (w.heap.size + 1 + 1) (0, 0, 0) := e4.block (HB.out.block _ (by omega))
      have HBW : Hid (Below w.heap.size w wr) := Lib.hid (hbw.trans (HB.out.mono (by omega)))
      cases gk with
      | zero =>
        obtain rfl : k = n := by omega
        have hx := HX.out
        rw [← HRS.out] at hx
        obtain ⟨⟨x0, x1, x2⟩, -⟩ := hx
        have HF := Lib.hid (hset_below (g := w.heap.size + 1 + 1) HBW.out (by omega) R)
        obtain ⟨⟨t0, t1, t2⟩, -⟩ := y4.set R
        obtain ⟨⟨u0, u1, u2⟩, v0, v1, v2⟩ := y4
        obtain ⟨R0, R1, R2⟩ := R
        clear HM HX HB sm hbw hmm
        simp only [hset] at *
        go_wp2
        rw [Exit.noGoto_ret]
        exact bodyPost_ret (v := .tuple #[.agg #[.int .i64 R0, .int .i64 R1, .int .i64 R2], .int .i64 0]) (by simp [results, Try.results10, go_sem, t0, t1, t2]) rfl ⟨rfl, HF.out⟩
      | succ G =>
        have hlt : k < n := by omega
        have hlI : (k : Int) < (n : Int) := by omega
        have hk4 : (k : Int) < 4096 := by have := HT.out; omega
        rcases HE4.out with h | ⟨b, o, rfl, hc⟩
        · omega
        obtain ⟨xa, xb, xc⟩ := hc k hlt
        have hbg : b < g := by rw [HG.out]; exact World.block_lt_of_cell? _ _ xa
        replace xa := sm hbg xa
        replace xb := sm hbg xb
        replace xc := sm hbg xc
        have kb : b < wr.heap.size := by omega
        obtain ⟨V, hV⟩ : ∃ V, V = wr.alloc (.cells #[.int .i64 (f k).1, .int .i64 (f k).2.1, .int .i64 (f k).2.2] 46) := ⟨_, rfl⟩
        have hbV : Below wr.heap.size wr V := by rw [hV]; exact (Below.refl _ _).alloc (Nat.le_refl _) _
        have hzV : V.heap.size = wr.heap.size + 1 := by rw [hV]; simp
        have hst := stt_bd HRT.out HLM.out k (by omega) (mon (f k).1)
        have hn4 := HT.out
        have HP := Lib.hid (put_any D W (f k) (g + 1) k (stt D W f k) (monsL f k) V HLM.out (HRT.out.1 k hlt) (by omega) ⟨by omega, by omega, by omega⟩ (by omega) (HM.out.below hbV))
        have hsP := sumP_bd HRT.out HLM.out s t k (by omega)
        have hSm : Sm (sumP D W s t f k) := ⟨by omega, by omega, by omega⟩
        have hHs := hrI_sm HRT.out HLM.out hlt
        have hsucc := sumP_succ D W s t f k
        obtain ⟨h, hh⟩ : ∃ h, h = hrI D W f k := ⟨_, rfl⟩
        have HP : Hid (Calls Try.prog 18 #[.agg #[.int .i64 D, .int .i64 W], .agg #[.int .i64 (f k).1, .int .i64 (f k).2.1, .int .i64 (f k).2.2], .map (some (g + 1))] V fun r w' => r = .returned (.agg #[.int .i64 h.1, .int .i64 h.2.1, .int .i64 h.2.2]) ∧ MapIs w' (g + 1) (k + 1) (stt D W f (k + 1)) (monsL f (k + 1)) ∧ V.grownBy w' (some (g + 1))) := Lib.hid (by rw [hh]; exact HP.out)
        rw [← hh] at hsucc hHs
        have HW := Lib.hid (fun U => with_any _ _ hSm hHs U)
        have xd : V.cell? ⟨wr.heap.size, 0, none⟩ = some (.int .i64 (f k).1) := by rw [hV]; exact new_at _ _ _ 0
        have y2V := stay hbV y2
        have y3V := stay hbV y3
        have y4V := y4.below hbV
        have HXV := HX.out.below hbV
        have HBV : Below g w4 V := HB.out.trans (hbV.mono (by omega))
        have HBWV : Below w.heap.size w V := HBW.out.trans (hbV.mono (by omega))
        have hstop := fun h => sumP_stop (D := D) (W := W) HRT.out s t hlt h
        rw [← HRS.out] at hstop
        have HSU := Lib.hid hsucc
        have HST := Lib.hid hstop
        clear hst hsP hSm hHs hh hsucc hstop HM HX HB sm hc HBW y2 y3 y4 hn4 hmm hbV hlt
        generalize f k = e at *
        obtain ⟨d, mi, ni⟩ := e
        simp only at *
        go_wp2_with fail
        rw [← hV]
        clear hV xa xb xc y0 y1
        refine (HP.out).mono ?_
        rintro e w5 ⟨rfl, HM5, hg5⟩
        have hz5 := hg5.size
        have s5 : ∀ {x j v}, x ≠ g + 1 → V.cell? ⟨x, j, none⟩ = some v → w5.cell? ⟨x, j, none⟩ = some v := fun {x j v} hx h => (World.cell?_of_block (w := V) (hg5.block x (World.block_lt_of_cell? _ _ h) (fun e => hx (by injection e)))).trans h
        have xd5 := s5 (by omega) xd
        have y25 := s5 (by omega) y2V
        have y35 := s5 (by omega) y3V
        have y45 := y4V.grown hg5 (by intro e; injection e; omega)
        have HX5 := HXV.grown hg5 (by intro e; injection e; omega)
        have HB5 : Below g w4 w5 := HBV.grown hg5 (by omega) (fun j hj => by injection hj; omega)
        have HBW5 : Below w.heap.size w w5 := HBWV.grown hg5 (by omega) (fun j hj => by injection hj; omega)
        have q0 : wr.heap.size < w5.heap.size := by omega
        have q1 : w.heap.size + 1 < w5.heap.size := by omega
        have q2 : w.heap.size + 1 + 1 < w5.heap.size := by omega
        have q3 : g < w5.heap.size := by omega
        have hbA : Below w5.heap.size w5 (w5.alloc (.cells #[.int .i64 h.1, .int .i64 h.2.1, .int .i64 h.2.2] 30)) := (Below.refl _ _).alloc (Nat.le_refl _) _
        have HMA := Lib.hid (HM5.below hbA)
        have HXA := HX5.below hbA
        have HBA := Lib.hid (HB5.trans (hbA.mono (by omega)))
        have HBWA := Lib.hid (HBW5.trans (hbA.mono (by omega)))
        replace HBW5 := Lib.hid HBW5
        clear xd y2V y3V y4V HXV HBV HBWV hg5 s5 HP HM5 hzV HB5
        have hcs : d < s ∨ (¬ d < s ∧ t ≤ d) ∨ (¬ d < s ∧ ¬ t ≤ d) := by omega
        rcases hcs with g1 | ⟨g1, g2⟩ | ⟨g1, g2⟩
        · have hs := HSU.out
          rw [if_neg (by omega)] at hs
          rw [← hs] at HXA
          have HXA := Lib.hid HXA
          clear hs HSU HST HX5 y45 HW hbA
          go_wp2
          go_roundg G
          case rel => exact ⟨k + 1, by omega, by go_num, HMA, HXA, HBA⟩
          case measure => exact Nat.lt_succ_self _
        · have hx := HX5
          rw [← HST.out g2] at hx
          obtain ⟨⟨x0, x1, x2⟩, -⟩ := hx
          have HF := Lib.hid ((hset_below (g := w.heap.size + 1 + 1) HBW5.out (by omega) R).alloc (by unfold hset; simp; omega) (.cells #[.int .i64 h.1, .int .i64 h.2.1, .int .i64 h.2.2] 30))
          have y4S := (y45.set R).below ((Below.refl _ _).alloc (Nat.le_refl _) (.cells #[.int .i64 h.1, .int .i64 h.2.1, .int .i64 h.2.2] 30))
          obtain ⟨⟨t0, t1, t2⟩, -⟩ := y4S
          obtain ⟨⟨u0, u1, u2⟩, v0, v1, v2⟩ := y45
          obtain ⟨R0, R1, R2⟩ := R
          clear HSU HST HX5 HW HMA HXA HBA HBWA hbA HBW5
          simp only [hset] at *
          go_wp2
          (try rw [Exit.noGoto_ret])
          exact bodyPost_ret (v := .tuple #[.agg #[.int .i64 R0, .int .i64 R1, .int .i64 R2], .int .i64 0]) (by simp [results, Try.results10, go_sem, t0, t1, t2]) rfl ⟨rfl, HF.out⟩
        · have hs := HSU.out
          rw [if_pos (by omega)] at hs
          obtain ⟨P, hP⟩ : ∃ P, P = sumP D W s t f k := ⟨_, rfl⟩
          rw [← hP] at hs HX5 HXA HW
          obtain ⟨Q, hQ⟩ : ∃ Q, Q = addH P h := ⟨_, rfl⟩
          rw [← hQ] at hs HW
          obtain ⟨⟨x0, x1, x2⟩, -⟩ := HX5
          have HS := Lib.hid hs
          clear hs HSU HST y45 hQ hP hbA
          have HXA' := Lib.hid HXA
          clear HXA
          obtain ⟨h0, h1, h2⟩ := h
          obtain ⟨P0, P1, P2⟩ := P
          simp only at *
          go_wp2_with fail
          refine (HW.out _).mono ?_
          rintro e w7 ⟨rfl, hb7⟩
          have hz7 := hb7.size
          have HX7 := HXA'.out.below hb7
          have HM7 := HMA.out.below hb7
          have HB7 := HBA.out.trans (hb7.mono (by simp; omega))
          have HXS : Hid (HrBox (hset w7 g Q) g (sumP D W s t f (k + 1))) := Lib.hid (by rw [HS.out]; exact HX7.set Q)
          have HMS := Lib.hid (HM7.block (hset_block (g := g) Q (by omega)))
          have HBS := Lib.hid (hset_below (g := g) HB7 (by omega) Q)
          obtain ⟨⟨p0, p1, p2⟩, v0, v1, v2⟩ := HX7
          obtain ⟨Q0, Q1, Q2⟩ := Q
          clear HXA' HMA HBA HM7 HB7 hb7 HW x0 x1 x2 xd5 y25 y35 HBWA hz7
          simp only [hset] at *
          go_wp2
          go_roundg G
          case rel => exact ⟨k + 1, by omega, by go_num, HMS, HXS, HBS⟩
          case measure => exact Nat.lt_succ_self _
  · have HK := Lib.hid HK
    have hRs : R = (0, 0, 0) := by rw [hR]; unfold sumR; rw [if_neg (by rw [← hC]; exact h0)]
    have e0 : (C != 0) = true := by simpa using h0
    obtain ⟨c40, c41, c42⟩ := c4.1
    clear hC hR h hHC
    go_enter Try.func10, Try.ntmps10
    go_wp2
    rw [← hW3]
    clear hW3
    go_step3
    go_wp2_with fail
    refine (HK.out).mono ?_
    rintro e w4 ⟨rfl, hb4⟩
    have hz4 := hb4.size
    have hb5 := hb0.trans (hb4.mono (by omega))
    have d4 := c4.below hb4
    obtain ⟨⟨y0, y1, y2⟩, g0, g1, g2⟩ := d4
    simp only at y0 y1 y2
    obtain ⟨t0, t1, t2⟩ := set3 (x := .int .i64 0) (y := .int .i64 0) (z := .int .i64 0) y0 y1 y2
    have HF := Lib.hid (hset_below (g := w.heap.size + 1 + 1) hb5 (by omega) (0, 0, 0))
    have h0' : ¬ C = 0 := h0
    clear hb4 hb0 c0 c1 c2 c3 c4 c40 c41 c42 HK hz3
    go_wp2
    rw [Exit.noGoto_ret]
    exact bodyPost_ret (v := .tuple #[.agg #[.int .i64 0, .int .i64 0, .int .i64 0], .int .i64 C]) (by simp [results, Try.results10, go_sem, t0, t1, t2]) rfl ⟨by rw [hRs], HF.out⟩

end Go.Proofs.Ytlfflnfodnegnaa
