/-
  What is proved: the contract of eachDay of a pattern, for either closure. Conditions: the free days lie in memory as the contract says, apart from the closure's cell.
-/
import Derived.Test.YtbgilplaefdhbaaDoorDkF
import Derived.WalkMore
import Derived.Deep.LoopGhost
namespace Go.Proofs.YtbgilplaefdhbaaDoor
open Go Go.RowKit Go.Proofs
set_option linter.unusedVariables false

/-- What a closure does with a day's minutes. -/
def Tells (gf : Nat) (hh : Int → Int) (g : Nat) : Prop :=
  ∀ (W : World) (acc m : Int), W.cell? ⟨g, 0, none⟩ = some (.int .i64 acc) → W.frozen? ⟨g, 0, none⟩ = false → 0 ≤ acc → acc ≤ 200000000 → 0 ≤ m → m ≤ 1440 →
    Calls Tryd.prog gf #[.int .i64 m, .pointer (some ⟨g, 0, none⟩)] W fun e w' => e = .returned (.tuple #[]) ∧ w'.cell? ⟨g, 0, none⟩ = some (.int .i64 (acc + hh m)) ∧ (∀ V a, Only g a V W → Only g (acc + hh m) V w')
theorem Tells.mins (g : Nat) : Tells 22 (fun m => m) g := fun W acc m h1 h2 h3 h4 h5 h6 => (m1_any g W acc m h1 h2 h3 h4 h5 h6).mono fun e w' ⟨he, hw⟩ => by
  subst hw
  exact ⟨he, World.cell?_setCell_same _ _ _ h1, fun V a h => h.set _⟩
theorem Only.same {g : Nat} {a b : Int} {V W : World} (h : Only g a V W) (hc : W.cell? ⟨g, 0, none⟩ = some (.int .i64 b)) : Only g b V W := ⟨h.1, hc, h.2.2.1, h.2.2.2⟩
theorem Tells.days (g : Nat) : Tells 23 one g := fun W acc m h1 h2 h3 h4 h5 h6 => (d1_any g W acc m h1 h2 h3 h4 h5 h6).mono fun e w' ⟨he, hw⟩ => by
  rcases hw with rfl | ⟨rfl, rfl⟩
  · exact ⟨he, World.cell?_setCell_same _ _ _ h1, fun V a h => h.set _⟩
  · have e0 : acc + one 0 = acc := by unfold one; rw [if_pos rfl]; omega
    rw [e0]
    exact ⟨he, h1, fun V a h => h.same h1⟩

/-- What is left of the free days. -/
def Rest (b o m r : Nat) (pf : Option Addr) (cf : Nat) : Prop := 0 < r → pf = some ⟨b, o + m, none⟩ ∧ r ≤ cf
theorem pos_of {F : List Int} {n m r : Nat} (h : m + r = n) (hn : n = F.length) (h0 : 0 < r) : m < F.length := by omega
/-- The day is not free, as those ahead are less, and the next one is greater. -/
theorem not_free {q : Nat → Int} {F : List Int} (hq : chk q F = 0) {m : Nat} {D : Int} (hm : m ≤ F.length) (h1 : ∀ i, i < m → F.getD i 0 < D) (h2 : m < F.length → D < F.getD m 0) : D ∉ F := fun hD => by
  obtain ⟨i, hi, he⟩ := mem_at.1 hD
  rcases Nat.lt_or_ge i m with hlt | hge
  · have := h1 i hlt; omega
  · have h3 := h2 (by omega)
    rcases Nat.eq_or_lt_of_le hge with e | hlt
    · rw [← e] at he; omega
    · have := rise_lt (chk_parts hq).2.2 hlt hi
      omega
theorem wk_ever (d : Int) (h : inB d = true) : ∃ m : Nat, m < 7 ∧ wkV d = m ∧ Hid (∀ w, Calls Tryd.prog 24 #[.int .i64 d] w fun e w' => e = .returned (.int .i64 m) ∧ w = w') := by
  have h1 := wkV_bd h
  refine ⟨(wkV d).toNat, by omega, by omega, Lib.hid (fun w => ?_)⟩
  have := wk_any d w
  rwa [show (((wkV d).toNat : Nat) : Int) = wkV d by omega]
theorem sumD_next (f : Int → Int) (a : Int) (j : Nat) : sumD f a (j + 1) = sumD f a j + f (a + j) := rfl

set_option maxHeartbeats 4000000 in
set_option maxRecDepth 100000 in
theorem each_any (gf : Nat) (hh : Int → Int) (g : Nat) (q : Nat → Int) (F : List Int) (p : Option Addr) (c : Nat) (a b : Int) (w : World)
    (h0 : hh 0 = 0) (hhb : ∀ m, 0 ≤ m → m ≤ 1440 → 0 ≤ hh m ∧ hh m ≤ 1440) (eg : ∀ args W, (callFunc gf args).run Tryd.prog W = .ok (.enter gf args) W) (HT : Tells gf hh g)
    (hc0 : w.cell? ⟨g, 0, none⟩ = some (.int .i64 0)) (hf0 : w.frozen? ⟨g, 0, none⟩ = false) (h : DaysIn w p F) (hcap : F.length ≤ c) (hfar : 0 < F.length → ∀ x, p = some x → x.block ≠ g) :
    Calls Tryd.prog 21 #[.agg #[.int .i64 (q 0), .int .i64 (q 1), .int .i64 (q 2), .int .i64 (q 3), .int .i64 (q 4), .int .i64 (q 5), .int .i64 (q 6), .slice p F.length c], .agg #[.int .i64 a, .int .i64 b], .func (.func gf) #[] #[.pointer (some ⟨g, 0, none⟩)]] w fun e w' => e = .returned (.tuple #[]) ∧ w'.cell? ⟨g, 0, none⟩ = some (.int .i64 (sumD (fun d => hh (onV q F d)) (lo a) (cnt a b))) ∧ Below g w w' := by
  have hgw : g < w.heap.size := World.block_lt_of_cell? w _ hc0
  obtain ⟨n, hnl⟩ : ∃ n, n = F.length := ⟨_, rfl⟩
  obtain ⟨R, hR⟩ : ∃ R, R = sumD (fun d => hh (onV q F d)) (lo a) (cnt a b) := ⟨_, rfl⟩
  obtain ⟨W1, hW1⟩ : ∃ W1, W1 = (w.alloc (.cells #[.int .i64 (q 0), .int .i64 (q 1), .int .i64 (q 2), .int .i64 (q 3), .int .i64 (q 4), .int .i64 (q 5), .int .i64 (q 6), .slice p n c] 41)).alloc (.cells #[.int .i64 a, .int .i64 b] 43) := ⟨_, rfl⟩
  have hba : Below w.heap.size w (w.alloc (.cells #[.int .i64 (q 0), .int .i64 (q 1), .int .i64 (q 2), .int .i64 (q 3), .int .i64 (q 4), .int .i64 (q 5), .int .i64 (q 6), .slice p n c] 41)) := (Below.refl w.heap.size w).alloc (Nat.le_refl _) _
  have hza : (w.alloc (.cells #[.int .i64 (q 0), .int .i64 (q 1), .int .i64 (q 2), .int .i64 (q 3), .int .i64 (q 4), .int .i64 (q 5), .int .i64 (q 6), .slice p n c] 41)).heap.size = w.heap.size + 1 := by simp
  have hb1 : Below (w.heap.size + 1) (w.alloc (.cells #[.int .i64 (q 0), .int .i64 (q 1), .int .i64 (q 2), .int .i64 (q 3), .int .i64 (q 4), .int .i64 (q 5), .int .i64 (q 6), .slice p n c] 41)) W1 := by rw [hW1]; exact (Below.refl _ _).alloc (by rw [hza]; exact Nat.le_refl _) _
  have hb0 : Below w.heap.size w W1 := hba.trans (hb1.mono (by omega))
  have hz1 : W1.heap.size = w.heap.size + 2 := by rw [hW1]; simp
  have x8 := box8 q (.slice p n c) w 41
  have HX : Hid (∀ k, k < 7 → W1.cell? ⟨w.heap.size, k, none⟩ = some (.int .i64 (q k))) := Lib.hid (fun k hk => (hb1.cell (p := ⟨w.heap.size, k, none⟩) (by show w.heap.size < _; omega)).trans (x8.1 k hk))
  have x7 : W1.cell? ⟨w.heap.size, 7, none⟩ = some (.slice p n c) := (hb1.cell (p := ⟨w.heap.size, 7, none⟩) (by show w.heap.size < _; omega)).trans x8.2
  have s0 : W1.cell? ⟨w.heap.size + 1, 0, none⟩ = some (.int .i64 a) := by rw [hW1, ← hza, World.cell?_alloc_new]; rfl
  have s1 : W1.cell? ⟨w.heap.size + 1, 1, none⟩ = some (.int .i64 b) := by rw [hW1, ← hza, World.cell?_alloc_new]; rfl
  have hD := h.below hb0 (Nat.le_refl _)
  obtain ⟨z0, z1, z2, z3, z4, z5, z6⟩ := seven HX.out
  have c1 := (bcell hb0 g 0 hgw).trans hc0
  have f1 := (hb0.frozen (p := ⟨g, 0, none⟩) hgw).trans hf0
  have qe := eqlWeek q
  have hgu := guardWeek
  cases hz : zB q with
  | true =>
    rw [hz] at qe
    have HR : Hid (R = 0) := Lib.hid (by
      rw [hR]
      refine sumD_zero fun d => ?_
      have : onV q F d = 0 := by
        unfold onV
        split
        · rename_i hh; have := wkV_bd hh.2.1; exact zB_all hz _ (by omega)
        · rfl
      rw [this, h0])
    rw [← hnl, ← hR]
    clear hR hz hD h hba hb1 x8 HX hza hz1 hnl
    go_enter Tryd.func21, Tryd.ntmps21
    go_wp2_with fail
    rw [← hW1]
    clear hW1
    go_step3
    go_wp2
    (try rw [Exit.noGoto_ret]); (try simp only [Exit.inBlock, Exit.then]); refine bodyPost_ret (results_none rfl _ _ _) rfl ?_
    exact ⟨rfl, by rw [HR.out]; exact c1, Below.mono hb0 (by omega)⟩
  | false =>
    rw [hz] at qe
    have HK := Check_any q F p c W1 hD
    by_cases hq : chk q F = 0
    · rw [hq, ← hnl] at HK
      have HK := Lib.hid HK
      obtain ⟨hw0, hn4, hfr⟩ := chk_parts hq
      have hQ := Lib.hid hq
      obtain ⟨bb, oo, HC⟩ : ∃ bb oo, Hid (bb ≠ g ∧ bb < w.heap.size ∧ (∀ j, j < n → W1.cell? ⟨bb, oo + j, none⟩ = some (.int .i64 (F.getD j 0))) ∧ (0 < n → p = some ⟨bb, oo, none⟩)) ∨ Hid (n = 0) := by
        rcases h with hF | ⟨bb, oo, hp, hc⟩
        · exact ⟨0, 0, .inr (Lib.hid (by rw [hnl, hF]; rfl))⟩
        · rcases Nat.eq_zero_or_pos n with hn0 | hn0
          · exact ⟨0, 0, .inr (Lib.hid hn0)⟩
          · have hlt := World.block_lt_of_cell? w _ (hc 0 (by omega))
            exact ⟨bb, oo, .inl (Lib.hid ⟨hfar (by omega) _ hp, hlt, fun j hj => (bcell hb0 bb _ hlt).trans (hc j (by omega)), fun _ => hp⟩)⟩
      have HCC : Hid (∀ j, j < n → bb ≠ g ∧ bb < w.heap.size ∧ W1.cell? ⟨bb, oo + j, none⟩ = some (.int .i64 (F.getD j 0)) ∧ p = some ⟨bb, oo, none⟩) := Lib.hid (fun j hj => by
        rcases HC with HC | HC
        · exact ⟨HC.out.1, HC.out.2.1, HC.out.2.2.1 j hj, HC.out.2.2.2 (by omega)⟩
        · have := HC.out; omega)
      have HX2 := cross_lo a b
      have HCR := Lib.hid (Cross_any a b (-25567) 84006)
      obtain ⟨X, Y, hXY⟩ : ∃ X Y, crossS (a, b) (-25567, 84006) = (X, Y) := ⟨_, _, rfl⟩
      rw [hXY] at HX2
      have HCR : Hid (∀ W, Calls Tryd.prog 31 #[.agg #[.int .i64 a, .int .i64 b], .agg #[.int .i64 (-25567), .int .i64 84006]] W fun e w' => e = .returned (.agg #[.int .i64 X, .int .i64 Y]) ∧ Below W.heap.size W w') := Lib.hid (fun W => by have := HCR.out W; rwa [hXY] at this)
      dsimp only at HX2
      obtain ⟨hx1, hx2, hx3, hx4, hx5⟩ := HX2
      obtain ⟨N, hN⟩ : ∃ N : Nat, N = cnt a b := ⟨_, rfl⟩
      obtain ⟨f, hf⟩ : ∃ f : Int → Int, f = fun d => hh (onV q F d) := ⟨_, rfl⟩
      have HRN : Hid (R = sumD f X N) := Lib.hid (by
        rw [hR, ← hf, ← hN]
        rcases Nat.eq_zero_or_pos N with h | h
        · rw [h]; rfl
        · rw [hx5 (by rw [← hN]; exact h)])
      have hYN : Y = X + (N : Int) := by omega
      have hN1 : N ≤ 109573 := by have := cnt_bd a b; omega
      have HF1 : Hid (∀ d, 0 ≤ f d ∧ f d ≤ 1440) := Lib.hid (fun d => by rw [hf]; have := onV_bd q F d; exact hhb _ this.1 this.2)
      have HF2 : Hid (∀ d, d ∈ F → f d = 0) := Lib.hid (fun d hd => by rw [hf]; show hh (onV q F d) = 0; rw [onV_free hd, h0])
      have HF3 : Hid (∀ d (m : Nat), inB d = true → d ∉ F → wkV d = m → f d = hh (q m)) := Lib.hid (fun d m hi hd hm => by rw [hf]; show hh (onV q F d) = _; rw [onV_yes hq hi hd]; unfold wkM; rw [hm]; rfl)
      have HNL := Lib.hid hnl
      have HB := Lib.hid (chkW_bd hw0)
      have HT2 := Lib.hid HT
      have hgb : g < W1.heap.size := by omega
      rw [← hnl, ← hR]
      rw [← hnl] at hn4 hcap
      have hXB : -25567 ≤ X := hx2
      have hYB : X + (N : Int) ≤ 84006 := by omega
      have HYN := Lib.hid hYN
      have hcap' := hcap
      clear hR hz hD h hba hb1 x8 hza hnl hq hx1 hx2 hx3 hx4 hx5 hXY hN hf HC hw0 hfr HT hc0 hf0 hfar hYN hhb h0
      go_enter Tryd.func21, Tryd.ntmps21
      go_wp2_with fail
      rw [← hW1]
      clear hW1
      go_step3
      go_wp2_with fail
      refine (HK.out).mono ?_
      rintro e w3 ⟨rfl, hb3⟩
      have s0' := (bcell hb3 _ 0 (by omega)).trans s0
      have s1' := (bcell hb3 _ 1 (by omega)).trans s1
      go_wp2_with fail
      refine (HCR.out _).mono ?_
      rintro e w4 ⟨rfl, hb4⟩
      have hb34 := hb3.trans (hb4.mono hb3.size)
      have hz4 : W1.heap.size ≤ w4.heap.size := hb34.size
      obtain ⟨W5, hW5⟩ : ∃ W5, W5 = w4.alloc (.cells #[.int .i64 X, .int .i64 Y] 43) := ⟨_, rfl⟩
      have hb5 : Below w4.heap.size w4 W5 := by rw [hW5]; exact (Below.refl w4.heap.size w4).alloc (Nat.le_refl _) _
      have u0 : W5.cell? ⟨w4.heap.size, 0, none⟩ = some (.int .i64 X) := by rw [hW5, World.cell?_alloc_new]; rfl
      have u1 : W5.cell? ⟨w4.heap.size, 1, none⟩ = some (.int .i64 Y) := by rw [hW5, World.cell?_alloc_new]; rfl
      have hb15 := hb34.trans (hb5.mono hz4)
      have y7 := (bcell hb15 _ 7 (by omega)).trans x7
      have HY : Hid (∀ k, k < 7 → W5.cell? ⟨w.heap.size, k, none⟩ = some (.int .i64 (q k))) := Lib.hid (fun k hk => (bcell hb15 _ k (by omega)).trans (HX.out k hk))
      have HCF : Hid (∀ j, j < n → bb ≠ g ∧ bb < w.heap.size ∧ W5.cell? ⟨bb, oo + j, none⟩ = some (.int .i64 (F.getD j 0)) ∧ p = some ⟨bb, oo, none⟩) := Lib.hid (fun j hj => by
        obtain ⟨k1, k2, k3, k4⟩ := HCC.out j hj
        exact ⟨k1, k2, (bcell hb15 _ _ (by omega)).trans k3, k4⟩)
      have c5 := (bcell hb15 g 0 (by omega)).trans c1
      have f5 := (hb15.frozen (p := ⟨g, 0, none⟩) (by show g < _; omega)).trans f1
      have hO5 := Only.refl c5 f5
      have hbw5 := hb0.trans (hb15.mono (by omega))
      have hg4 : g < w4.heap.size := by omega
      clear hb5 hb3 hb4 hb34 s0 s1 s0' s1' x7 z0 z1 z2 z3 z4 z5 z6 HX HCC HCR HK c5 f5 c1 f1 qe hgu hb15 hb0
      rw [hW5] at y7 u0 u1
      go_wp2
      go_step3
      go_wp2
      rw [← hW5] at y7 u0 u1 ⊢
      clear hW5
      go_loopg [7, 8] N (fun gk fv dv wr => ∃ (j m r : Nat) (pf : Option Addr) (cf : Nat) (s D : Int), j + gk = N ∧ m + r = n ∧ dv = .int .i64 D ∧ fv = .slice pf r cf ∧ Hid (Rest bb oo m r pf cf) ∧ Only g s W5 wr ∧ Hid (s = sumD f X j) ∧ Hid (D = X + (j : Int)) ∧ Hid (∀ i, i < m → F.getD i 0 < D) ∧ -25567 ≤ D ∧ D ≤ 84006 ∧ 0 ≤ s ∧ s ≤ 157785120)
      case atStart =>
        refine ⟨0, 0, n, p, c, 0, X, by omega, by omega, rfl, rfl, Lib.hid (fun h => ?_), hO5, Lib.hid rfl, Lib.hid (by omega), Lib.hid (fun i hi => absurd hi (Nat.not_lt_zero _)), by omega, by omega, by omega, by omega⟩
        obtain ⟨k1, k2, k3, k4⟩ := HCF.out 0 h
        exact ⟨by rw [k4]; rfl, hcap⟩
      case round =>
        obtain ⟨j, m, r, pf, cf, s, D, hj, hm, rfl, rfl, HRe, hO, HS, HD, HLT, hD1, hD2, hs1, hs2⟩ := hrel
        have v1 := (hO.1 w4.heap.size 1 (by omega)).trans u1
        cases gk with
        | zero =>
          have hDY : ¬ D < Y := by have := HD.out; have := HYN.out; omega
          have HRR : Hid (R = s) := Lib.hid (by rw [HRN.out, HS.out]; congr 1; omega)
          have hcl := hO.2.1
          have hbl := (Below.mono hbw5 (show g ≤ w.heap.size by omega)).trans hO.2.2.2
          clear hO HS HD HLT HRe HF1 HF2 HF3 HB HT2 HCF HY
          go_wp2
          (try rw [Exit.noGoto_normal]); (try simp only [Exit.inBlock, Exit.then]); refine bodyPost_end (results_none rfl _ _ _) rfl ?_
          exact ⟨rfl, by rw [HRR.out]; exact hcl, hbl⟩
        | succ G =>
          have hDY : D < Y := by have := HD.out; have := HYN.out; omega
          have hin : inB D = true := inB_yes hD1 (by have := HYN.out; omega)
          obtain ⟨wm, m7, hm, HW⟩ := wk_ever D hin
          have ym := (hO.1 w.heap.size wm (by omega)).trans (HY.out wm m7)
          have hqb := HB.out wm m7
          have hmI : (wm : Int) < 7 := by omega
          have hDD : D < 84006 := by have := HYN.out; omega
          have HFD : Hid (D ∉ F → f D = hh (q wm)) := Lib.hid (fun h => HF3.out D wm hin h hm)
          have HFR : Hid (D ∈ F → f D = 0) := Lib.hid (fun h => HF2.out D h)
          have HSN : Hid (sumD f X (j + 1) = s + f D) := Lib.hid (by rw [sumD_next, ← HS.out, ← HD.out])
          have HSB : Hid (0 ≤ s + f D ∧ s + f D ≤ 157785120) := Lib.hid (by
            have h1 := sumD_bd (f := f) (a := X) HF1.out (j + 1)
            rw [HSN.out] at h1
            omega)
          clear hm hin
          generalize q wm = y at *
          go_wp2
          go_loopg [7] r (fun g2 fv wy => ∃ (m2 r2 : Nat) (pf2 : Option Addr) (cf2 : Nat), m2 + r2 = n ∧ r2 ≤ g2 ∧ fv = .slice pf2 r2 cf2 ∧ Hid (Rest bb oo m2 r2 pf2 cf2) ∧ Hid (∀ i, i < m2 → F.getD i 0 < D) ∧ wy = wr)
          case atStart => exact ⟨m, r, pf, cf, by omega, Nat.le_refl _, rfl, HRe, HLT, rfl⟩
          case round =>
            obtain ⟨m2, r2, pf2, cf2, hmr, hr2, rfl, HRe2, HLT2, rfl⟩ := hrel
            rcases Nat.eq_zero_or_pos r2 with hz0 | hz0
            · subst hz0
              have e1 : ¬ (0 : Int) < ((0 : Nat) : Int) := by omega
              have hfD := HFD.out (not_free hQ.out (m := m2) (by have := HNL.out; omega) HLT2.out (fun hlt => by have := HNL.out; omega))
              have HSX : Hid (s + hh y = sumD f X (j + 1)) := Lib.hid (by rw [HSN.out, hfD])
              have hsb := HSB.out
              rw [hfD] at hsb
              clear HFD HFR HSN HSB hfD HF1 HF2 HF3 HS
              go_wp2_with fail
              refine (HW.out _).mono ?_
              rintro e w' ⟨rfl, rfl⟩
              go_wp2_with fail
              refine (HT2.out _ s y hO.2.1 hO.2.2.1 hs1 (by omega) hqb.1 hqb.2).mono ?_
              rintro e w6 ⟨rfl, hc6, hon⟩
              have hO6 := hon W5 s hO
              go_wp2
              go_roundg G
              case measure => omega
              case rel => exact ⟨j + 1, m2, _, _, cf2, s + hh y, D + 1, by omega, by omega, rfl, rfl, HRe2, hO6, HSX, Lib.hid (by have := HD.out; omega), Lib.hid (fun i hi => by have := HLT2.out i hi; omega), by omega, by have := HYN.out; omega, by omega, by omega⟩
            · have e1 : (0 : Int) < (r2 : Int) := by omega
              obtain ⟨hp2, hcf2⟩ := HRe2.out hz0
              obtain ⟨k1, k2, k3, k4⟩ := HCF.out m2 (by omega)
              have xm := (hO.1 bb (oo + m2) k1).trans k3
              clear k2 k3 k4
              subst hp2
              rcases Int.lt_or_le D (F.getD m2 0) with hgt | hle
              · have hgt' : ¬ F.getD m2 0 ≤ D := by omega
                have HG := Lib.hid hgt
                clear hgt
                have hfD := HFD.out (not_free hQ.out (m := m2) (by have := HNL.out; omega) HLT2.out (fun hlt => HG.out))
                have HSX : Hid (s + hh y = sumD f X (j + 1)) := Lib.hid (by rw [HSN.out, hfD])
                have hsb := HSB.out
                rw [hfD] at hsb
                generalize F.getD m2 0 = fm at *
                clear HFD HFR HSN HSB hfD HF1 HF2 HF3 HS
                go_wp2_with fail
                refine (HW.out _).mono ?_
                rintro e w' ⟨rfl, rfl⟩
                go_wp2_with fail
                refine (HT2.out _ s y hO.2.1 hO.2.2.1 hs1 (by omega) hqb.1 hqb.2).mono ?_
                rintro e w6 ⟨rfl, hc6, hon⟩
                have hO6 := hon W5 s hO
                go_wp2
                go_roundg G
                case measure => omega
                case rel => exact ⟨j + 1, m2, _, _, cf2, s + hh y, D + 1, by omega, by omega, rfl, rfl, HRe2, hO6, HSX, Lib.hid (by have := HD.out; omega), Lib.hid (fun i hi => by have := HLT2.out i hi; omega), by omega, by have := HYN.out; omega, by omega, by omega⟩
              · obtain ⟨pf3, hrun, hrest⟩ := tail_run (some ⟨bb, oo + m2, none⟩) r2 cf2 bb oo m2 hz0 rfl hcf2
                have HR3 : Hid (Rest bb oo (m2 + 1) (r2 - 1) pf3 (cf2 - 1)) := Lib.hid hrest
                clear hrest
                by_cases heq : F.getD m2 0 = D
                · have HSX : Hid (s = sumD f X (j + 1)) := Lib.hid (by rw [HSN.out, HFR.out (mem_at.2 ⟨m2, by have := HNL.out; omega, heq⟩)]; omega)
                  have HL3 : Hid (∀ i, i < m2 + 1 → F.getD i 0 < D + 1) := Lib.hid (fun i hi => by
                    rcases Nat.lt_or_ge i m2 with h1 | h1
                    · have := HLT2.out i h1; omega
                    · rw [show i = m2 by omega, heq]; omega)
                  rw [heq] at xm
                  have e2 : decide (D ≤ D) = true := decide_eq_true (Int.le_refl _)
                  clear HFD HFR HSN HSB HF1 HF2 HF3 HS heq hle
                  go_wp2
                  go_roundg G
                  case measure => omega
                  case rel => exact ⟨j + 1, m2 + 1, r2 - 1, pf3, cf2 - 1, s, D + 1, by omega, by omega, rfl, rfl, HR3, hO, HSX, Lib.hid (by have := HD.out; omega), HL3, by omega, by have := HYN.out; omega, by omega, by omega⟩
                · have e2 : (F.getD m2 0 == D) = false := by simpa using heq
                  have hlt : F.getD m2 0 < D := by omega
                  have HL3 : Hid (∀ i, i < m2 + 1 → F.getD i 0 < D) := Lib.hid (fun i hi => by
                    rcases Nat.lt_or_ge i m2 with h1 | h1
                    · exact HLT2.out i h1
                    · rw [show i = m2 by omega]; exact hlt)
                  generalize F.getD m2 0 = fm at *
                  clear HFD HFR HSN HSB HF1 HF2 HF3 HS heq
                  go_wp2
                  go_roundg (r2 - 1)
                  case measure => omega
                  case rel => exact ⟨m2 + 1, r2 - 1, pf3, cf2 - 1, by omega, Nat.le_refl _, rfl, HR3, HL3, rfl⟩
    · have HR : Hid (R = 0) := Lib.hid (by rw [hR]; exact sumD_zero fun d => by rw [onV_bad hq, h0])
      have e1 : (chk q F != 0) = true := by simpa using hq
      rw [← hnl] at HK
      generalize chk q F = K at *
      have HK := Lib.hid HK
      rw [← hnl, ← hR]
      clear hR hz hD h hba hb1 x8 HX hza hz1 hnl hq
      go_enter Tryd.func21, Tryd.ntmps21
      go_wp2_with fail
      rw [← hW1]
      clear hW1
      go_step3
      go_wp2_with fail
      refine (HK.out).mono ?_
      rintro e w2 ⟨rfl, hb2⟩
      have c2 := (bcell hb2 g 0 (Nat.lt_of_lt_of_le hgw hb0.size)).trans c1
      have hb3 := hb0.trans (hb2.mono hb0.size)
      go_wp2
      (try rw [Exit.noGoto_ret]); (try simp only [Exit.inBlock, Exit.then]); refine bodyPost_ret (results_none rfl _ _ _) rfl ?_
      exact ⟨rfl, by rw [HR.out]; exact c2, Below.mono hb3 (by omega)⟩

end Go.Proofs.YtbgilplaefdhbaaDoor
