/-
  What is proved: the contract of the document's own Sum. Conditions: right entries, right limits; the entries lie in memory as the contract says.
-/
import Derived.Test.YtlfflnfodnegnaaSkU
namespace Go.Proofs.Ytlfflnfodnegnaa
open Go Go.RowKit Go.Proofs
set_option linter.unusedVariables false

set_option maxHeartbeats 4000000 in
set_option maxRecDepth 100000 in
theorem rSum_any (f : Nat → En) (p : Option Addr) (n c : Nat) (D W s t : Int) (w : World) (h : EntsIn w p n f) (hn : n ≤ 4096) (hr : Rt f n) (hL : Lim D W) :
    Calls Try.prog 16 #[.slice p n c, .int .i64 D, .int .i64 W, .agg #[.int .i64 s, .int .i64 t]] w fun e w' => e = .returned (.agg #[.int .i64 (sumP D W s t f n).1, .int .i64 (sumP D W s t f n).2.1, .int .i64 (sumP D W s t f n).2.2]) ∧ Below w.heap.size w w' := by
  obtain ⟨W3, hW3⟩ : ∃ W3, W3 = ((w.alloc (.cells #[.int .i64 s, .int .i64 t] 27)).alloc (.cells #[.int .i64 0, .int .i64 0, .int .i64 0] 41)).alloc (.cells #[.int .i64 0, .int .i64 0, .int .i64 0] 41) := ⟨_, rfl⟩
  have hz3 : W3.heap.size = w.heap.size + 1 + 1 + 1 := by rw [hW3]; simp
  have hb0 : Below w.heap.size w W3 := by rw [hW3]; exact (((Below.refl w.heap.size w).alloc (Nat.le_refl _) _).alloc (by simp) _).alloc (by simp; omega) _
  have hc : W3.cell? ⟨w.heap.size, 0, none⟩ = some (.int .i64 s) ∧ W3.cell? ⟨w.heap.size, 1, none⟩ = some (.int .i64 t) ∧ HrBox W3 (w.heap.size + 1) (0, 0, 0) ∧ HrBox W3 (w.heap.size + 1 + 1) (0, 0, 0) := by
    obtain ⟨Wa, hWa⟩ : ∃ Wa, Wa = w.alloc (.cells #[.int .i64 s, .int .i64 t] 27) := ⟨_, rfl⟩
    obtain ⟨Wb, hWb⟩ : ∃ Wb, Wb = Wa.alloc (.cells #[.int .i64 0, .int .i64 0, .int .i64 0] 41) := ⟨_, rfl⟩
    have za : Wa.heap.size = w.heap.size + 1 := by rw [hWa]; simp
    have zb : Wb.heap.size = w.heap.size + 1 + 1 := by rw [hWb, World.size_alloc, za]
    have e1 : ∀ j, W3.cell? ⟨w.heap.size, j, none⟩ = Wa.cell? ⟨w.heap.size, j, none⟩ := fun j => by
      rw [hW3, ← hWa, ← hWb, World.cell?_alloc_lt _ _ _ (by show w.heap.size < _; omega), hWb, World.cell?_alloc_lt _ _ _ (by show w.heap.size < _; omega)]
    refine ⟨?_, ?_, ?_, ?_⟩
    · rw [e1, hWa, new_at]; rfl
    · rw [e1, hWa, new_at]; rfl
    · rw [hW3, ← hWa, ← hWb]
      have := HrBox.new Wa (0, 0, 0) 41
      rw [za, ← hWb] at this
      exact this.below ((Below.refl _ _).alloc (Nat.le_refl _) _)
    · rw [hW3, ← hWa, ← hWb, ← zb]
      exact HrBox.new Wb (0, 0, 0) _
  obtain ⟨c0, c1, c2, c3⟩ := hc
  have hE := h.below hb0
  obtain ⟨R, hR⟩ : ∃ R, R = sumP D W s t f n := ⟨_, rfl⟩
  rw [← hR]
  have HR := Lib.hid hR
  have HE := Lib.hid hE
  have HRT := Lib.hid hr
  have HLM := Lib.hid hL
  have HSB := Lib.hid (fun k (hk : k ≤ n) => sumP_bd hr hL s t k hk)
  have HE0 : Hid (∀ b o, p = some ⟨b, o, none⟩ → 0 < n → b < w.heap.size) := Lib.hid (fun b o hp h0 => by
    rcases h with h | ⟨b', o', hp', hc'⟩
    · omega
    · rw [hp] at hp'
      have e := Option.some.inj hp'
      obtain ⟨x0, -, -⟩ := hc' 0 h0
      have := World.block_lt_of_cell? _ _ x0
      injection e with e1
      rw [e1]; exact this)
  obtain ⟨L1, L2, L3, L4⟩ := hL
  clear h hE hR hr
  go_enter Try.func16, Try.ntmps16
  go_wp2
  rw [← hW3]
  clear hW3
  go_loopw [10] (fun iv wr => ∃ k : Nat, k ≤ n ∧ iv = .int .i64 k ∧ Hid (HrBox wr (w.heap.size + 1 + 1) (sumP D W s t f k)) ∧ Hid (∀ b : Nat, b ≠ w.heap.size + 1 + 1 → wr.heap[b]? = W3.heap[b]?) ∧ Hid (Below w.heap.size w wr)) (fun iv _ => n - (RowKit.intOf iv).toNat)
  case atStart => exact ⟨0, by omega, rfl, Lib.hid c3, Lib.hid (fun _ _ => rfl), Lib.hid hb0⟩
  case round =>
    obtain ⟨k, hk, rfl, HX, HO, HB⟩ := hrel
    have sm : ∀ {b i v}, b ≠ w.heap.size + 1 + 1 → W3.cell? ⟨b, i, none⟩ = some v → wr.cell? ⟨b, i, none⟩ = some v := fun {b i v} hb h => (World.cell?_of_block (w := W3) (a := ⟨b, i, none⟩) (HO.out b hb)).trans h
    have u0 := sm (by omega) c0
    have u1 := sm (by omega) c1
    have hX1 := HX.out.lt
    by_cases hlt : k < n
    · have hlI : (k : Int) < (n : Int) := by omega
      have hk4 : (k : Int) < 4096 := by omega
      rcases HE.out with h | ⟨b, o, rfl, hc⟩
      · omega
      have hbw := HE0.out b o rfl (by omega)
      have hbne : b ≠ w.heap.size + 1 + 1 := by omega
      obtain ⟨xa, xb, xc⟩ := hc k hlt
      replace xa := sm hbne xa
      replace xb := sm hbne xb
      replace xc := sm hbne xc
      have HEr : Hid (EntsIn wr (some ⟨b, o, none⟩) n f) := Lib.hid (.inr ⟨b, o, rfl, fun j hj => ⟨sm hbne (hc j hj).1, sm hbne (hc j hj).2.1, sm hbne (hc j hj).2.2⟩⟩)
      obtain ⟨hin, m0, m1, n0, n1⟩ := HRT.out.1 k hlt
      obtain ⟨o1, o2⟩ := over_is HRT.out HLM.out hlt
      have hov := fun V (hV : EntsIn V (some ⟨b, o, none⟩) n f) => over_any f (some ⟨b, o, none⟩) n c k D W V hV hn HRT.out HLM.out hlt
      have hbd := hrs_bd (W := W) (A := (stt D W f k (mon (f k).1)).1) L1 m0
      have hsb := HSB.out k hk
      obtain ⟨⟨q1, q2⟩, ⟨q3, q4⟩, q5, q6⟩ := hsb
      have hnx := sumP_succ D W s t f k
      obtain ⟨ov, hov'⟩ : ∃ ov, ov = overV D W f k := ⟨_, rfl⟩
      have hI : hrI D W f k = ((f k).2.1 - ov, ov, (f k).2.2) := by
        have e3 : (hrI D W f k).2.2 = (f k).2.2 := hbd.2.2.2
        rw [hov', ← e3, o2, o1]
      have hob : 0 ≤ ov ∧ ov ≤ (f k).2.1 := by
        have e1 : (hrI D W f k).2.1 = ov := by rw [hI]
        have e2 : (hrI D W f k).1 = (f k).2.1 - ov := by rw [hI]
        have h1 : 0 ≤ (hrI D W f k).2.1 := hbd.2.1
        have h2 : 0 ≤ (hrI D W f k).1 := hbd.1
        omega
      rw [hI] at hnx
      rw [← hov'] at hov
      have HOV := Lib.hid hov
      obtain ⟨ob1, ob2⟩ := hob
      obtain ⟨⟨t1, t2, t3⟩, f1, f2, f3⟩ := HX.out
      have HNX := Lib.hid hnx
      clear hc hov hbd o1 o2 hI hov' hin hnx HX
      generalize sumP D W s t f k = sj at *
      obtain ⟨s1, s2, s3⟩ := sj
      generalize f k = e at *
      obtain ⟨d, mi, ni⟩ := e
      simp only [addH] at *
      have hcs : (s ≤ d ∧ d < t) ∨ (s ≤ d ∧ ¬ d < t) ∨ ¬ s ≤ d := by omega
      rcases hcs with ⟨g1, g2⟩ | ⟨g1, g2⟩ | g1
      · have e1 : decide (s ≤ d) = true := decide_eq_true g1
        have e2 : decide (d < t) = true := decide_eq_true g2
        have HT : Hid (sumP D W s t f (k + 1) = (s1 + (mi - ov), s2 + ov, s3 + ni)) := Lib.hid (by have := HNX.out; rwa [if_pos ⟨g1, g2⟩] at this)
        go_wp2
        go_quiet (fail)
        obtain ⟨V0, hV0⟩ : ∃ V', V' = wr.drewN nq := ⟨_, rfl⟩
        have toV : ∀ p, V0.cell? p = wr.cell? p := fun p => by rw [hV0]; rfl
        have toF : ∀ p, V0.frozen? p = wr.frozen? p := fun p => by rw [hV0]; rfl
        have hH : ∀ b : Nat, V0.heap[b]? = wr.heap[b]? := fun b => by rw [hV0]; rfl
        have HBV0 : Hid (Below w.heap.size w V0) := Lib.hid (by rw [hV0]; exact below_drewN HB.out _)
        have HEV : Hid (EntsIn V0 (some ⟨b, o, none⟩) n f) := Lib.hid (by rw [hV0]; exact HEr.out)
        have HOW := Lib.hid (HOV.out V0 HEV.out)
        go_wp2_with fail
        rw [← hV0]
        refine (HOW.out).mono ?_
        rintro e V ⟨rfl, hS⟩
        have HOV : Hid (∀ b : Nat, b ≠ w.heap.size + 1 + 1 → V.heap[b]? = W3.heap[b]?) := Lib.hid (fun b hb => (hS.1 b).trans ((hH b).trans (HO.out b hb)))
        have HBV : Hid (Below w.heap.size w V) := Lib.hid (HBV0.out.trans (hS.2.mono HBV0.out.size))
        have fro : ∀ {x i}, V0.frozen? ⟨x, i, none⟩ = false → V.frozen? ⟨x, i, none⟩ = false := fun {x i} h => (World.frozen?_of_block (w := V0) (a := ⟨x, i, none⟩) (hS.1 x)).trans h
        have xa := hS.cell ((toV _).trans xa)
        have xb := hS.cell ((toV _).trans xb)
        have xc := hS.cell ((toV _).trans xc)
        have t1 := hS.cell ((toV _).trans t1)
        have t2 := hS.cell ((toV _).trans t2)
        have t3 := hS.cell ((toV _).trans t3)
        have f1 := fro ((toF _).trans f1)
        have f2 := fro ((toF _).trans f2)
        have f3 := fro ((toF _).trans f3)
        clear hV0 toV toF hH HO HB hS HOW HEV HEr fro HBV0 u0 u1 sm
        obtain ⟨V1, hV1⟩ : ∃ V', V' = V.setCell ⟨w.heap.size + 1 + 1, 1, none⟩ (.int .i64 (s2 + ov)) := ⟨_, rfl⟩
        have far : ∀ {x i v}, x ≠ w.heap.size + 1 + 1 → V.cell? ⟨x, i, none⟩ = some v → V1.cell? ⟨x, i, none⟩ = some v := fun hx h => by rw [hV1]; exact (set_far (.inl hx)).trans h
        have frz : ∀ {x i}, V.frozen? ⟨x, i, none⟩ = false → V1.frozen? ⟨x, i, none⟩ = false := fun h => by rw [hV1]; exact (World.frozen?_setCell ..).trans h
        have xa1 := far hbne xa
        have xb1 := far hbne xb
        have xc1 := far hbne xc
        have r1 : V1.cell? ⟨w.heap.size + 1 + 1, 0, none⟩ = some (.int .i64 s1) := by rw [hV1]; exact (set_far (by omega)).trans t1
        have r2 : V1.cell? ⟨w.heap.size + 1 + 1, 1, none⟩ = some (.int .i64 (s2 + ov)) := by rw [hV1]; exact set_in t2
        have r3 : V1.cell? ⟨w.heap.size + 1 + 1, 2, none⟩ = some (.int .i64 s3) := by rw [hV1]; exact (set_far (by omega)).trans t3
        have k1 := frz f1
        have k2 := frz f2
        have k3 := frz f3
        have HOV1 : Hid (∀ b : Nat, b ≠ w.heap.size + 1 + 1 → V1.heap[b]? = W3.heap[b]?) := Lib.hid (fun b hb => by rw [hV1]; exact (Below.heap_setCell _ _ _ _ hb).trans (HOV.out b hb))
        have HBV1 : Hid (Below w.heap.size w V1) := Lib.hid (by rw [hV1]; exact HBV.out.setCell (by show w.heap.size ≤ w.heap.size + 1 + 1; omega) _)
        clear far frz HOV HBV
        go_wp2
        rw [← hV1]
        clear hV1 xa xb xc t1 t2 t3 f1 f2 f3
        go_region
        obtain ⟨V2, hV2⟩ : ∃ V', V' = (V1.setCell ⟨w.heap.size + 1 + 1, 0, none⟩ (.int .i64 (s1 + mi - ov))).drew := ⟨_, rfl⟩
        rw [← hV2]
        have far : ∀ {x i v}, x ≠ w.heap.size + 1 + 1 → V1.cell? ⟨x, i, none⟩ = some v → V2.cell? ⟨x, i, none⟩ = some v := fun hx h => by rw [hV2]; exact (set_far (.inl hx)).trans h
        have frz : ∀ {x i}, V1.frozen? ⟨x, i, none⟩ = false → V2.frozen? ⟨x, i, none⟩ = false := fun h => by rw [hV2]; exact (World.frozen?_setCell ..).trans h
        replace xc1 := far hbne xc1
        replace r1 : V2.cell? ⟨w.heap.size + 1 + 1, 0, none⟩ = some (.int .i64 (s1 + mi - ov)) := by rw [hV2]; exact set_in r1
        replace r2 : V2.cell? ⟨w.heap.size + 1 + 1, 1, none⟩ = some (.int .i64 (s2 + ov)) := by rw [hV2]; exact (set_far (by omega)).trans r2
        replace r3 : V2.cell? ⟨w.heap.size + 1 + 1, 2, none⟩ = some (.int .i64 s3) := by rw [hV2]; exact (set_far (by omega)).trans r3
        replace k1 := frz k1
        replace k2 := frz k2
        replace k3 := frz k3
        have HOV2 : Hid (∀ b : Nat, b ≠ w.heap.size + 1 + 1 → V2.heap[b]? = W3.heap[b]?) := Lib.hid (fun b hb => by rw [hV2]; exact (Below.heap_setCell _ _ _ _ hb).trans (HOV1.out b hb))
        have HBV2 : Hid (Below w.heap.size w V2) := Lib.hid (by rw [hV2]; exact (HBV1.out.setCell (by show w.heap.size ≤ w.heap.size + 1 + 1; omega) _).drew)
        clear far frz hV2 HOV1 HBV1 xa1 xb1
        go_wp2
        go_region
        obtain ⟨V3, hV3⟩ : ∃ V', V' = (V2.setCell ⟨w.heap.size + 1 + 1, 2, none⟩ (.int .i64 (s3 + ni))).drew := ⟨_, rfl⟩
        rw [← hV3]
        have frz : ∀ {x i}, V2.frozen? ⟨x, i, none⟩ = false → V3.frozen? ⟨x, i, none⟩ = false := fun h => by rw [hV3]; exact (World.frozen?_setCell ..).trans h
        replace r1 : V3.cell? ⟨w.heap.size + 1 + 1, 0, none⟩ = some (.int .i64 (s1 + mi - ov)) := by rw [hV3]; exact (set_far (by omega)).trans r1
        replace r2 : V3.cell? ⟨w.heap.size + 1 + 1, 1, none⟩ = some (.int .i64 (s2 + ov)) := by rw [hV3]; exact (set_far (by omega)).trans r2
        replace r3 : V3.cell? ⟨w.heap.size + 1 + 1, 2, none⟩ = some (.int .i64 (s3 + ni)) := by rw [hV3]; exact set_in r3
        replace k1 := frz k1
        replace k2 := frz k2
        replace k3 := frz k3
        have HOV3 : Hid (∀ b : Nat, b ≠ w.heap.size + 1 + 1 → V3.heap[b]? = W3.heap[b]?) := Lib.hid (fun b hb => by rw [hV3]; exact (Below.heap_setCell _ _ _ _ hb).trans (HOV2.out b hb))
        have HBV3 : Hid (Below w.heap.size w V3) := Lib.hid (by rw [hV3]; exact (HBV2.out.setCell (by show w.heap.size ≤ w.heap.size + 1 + 1; omega) _).drew)
        have HX3 : Hid (HrBox V3 (w.heap.size + 1 + 1) (sumP D W s t f (k + 1))) := Lib.hid (by rw [HT.out]; exact ⟨⟨by rw [r1]; congr 2; omega, r2, r3⟩, k1, k2, k3⟩)
        clear frz hV3 HOV2 HBV2 r1 r2 r3 k1 k2 k3 xc1
        go_wp2
        exact ⟨⟨k + 1, by omega, by go_num, HX3, HOV3, HBV3⟩, by simp [RowKit.intOf]; omega⟩
      · have e1 : decide (s ≤ d) = true := decide_eq_true g1
        have e2 : decide (d < t) = false := decide_eq_false g2
        have HT : Hid (HrBox wr (w.heap.size + 1 + 1) (sumP D W s t f (k + 1))) := Lib.hid (by have := HNX.out; rw [if_neg (fun h => g2 h.2)] at this; rw [this]; exact ⟨⟨t1, t2, t3⟩, f1, f2, f3⟩)
        go_wp2
        go_quiet (fail)
        go_wp2
        exact ⟨⟨k + 1, by omega, by go_num, Lib.hid HT.out, Lib.hid (fun b hb => HO.out b hb), Lib.hid (below_drewN HB.out _)⟩, by simp [RowKit.intOf]; omega⟩
      · have e1 : decide (s ≤ d) = false := decide_eq_false g1
        have HT : Hid (HrBox wr (w.heap.size + 1 + 1) (sumP D W s t f (k + 1))) := Lib.hid (by have := HNX.out; rw [if_neg (fun h => g1 h.1)] at this; rw [this]; exact ⟨⟨t1, t2, t3⟩, f1, f2, f3⟩)
        go_wp2
        go_quiet (fail)
        go_wp2
        exact ⟨⟨k + 1, by omega, by go_num, Lib.hid HT.out, Lib.hid (fun b hb => HO.out b hb), Lib.hid (below_drewN HB.out _)⟩, by simp [RowKit.intOf]; omega⟩
    · obtain rfl : k = n := by omega
      have hx := HX.out
      rw [← HR.out] at hx
      obtain ⟨⟨x0, x1, x2⟩, -⟩ := hx
      have y4 := c2.block (HO.out (w.heap.size + 1) (by omega))
      have HF := Lib.hid (hset_below (g := w.heap.size + 1) HB.out (by omega) R)
      obtain ⟨⟨r0, r1, r2⟩, -⟩ := y4.set R
      obtain ⟨⟨v0, v1, v2⟩, w0, w1, w2⟩ := y4
      obtain ⟨R0, R1, R2⟩ := R
      clear HX HO HB sm u0 u1
      simp only [hset] at *
      go_wp2
      exact bodyPost_ret (v := .agg #[.int .i64 R0, .int .i64 R1, .int .i64 R2]) (by simp [results, Try.results16, go_sem, r0, r1, r2]) rfl ⟨rfl, HF.out⟩

end Go.Proofs.Ytlfflnfodnegnaa
