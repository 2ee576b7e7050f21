/-
  What is proved: the contract of share.split: the whole cents of each part, and one more for each of the first places by their rests. Conditions: the weights lie in memory as the contract says; the amount and the weights are within their limits.
-/
import Derived.Test.YtkhjlpjhmdmfiaaShareC
namespace Go.Proofs.Ytkhjlpjhmdmfiaa
open Go Go.RowKit Go.Proofs

def RowV (w : World) (g n : Nat) (v : Nat → Value) : Prop := ∀ j, j < n → w.cell? ⟨g, j, none⟩ = some (v j) ∧ w.frozen? ⟨g, j, none⟩ = false
theorem RowV.store {w : World} {g n : Nat} {v : Nat → Value} (h : RowV w g n v) (p : Nat) (x : Value) : RowV (w.setCell ⟨g, p, none⟩ x) g n (fun j => if j = p then x else v j) := by
  intro j hj
  refine ⟨?_, ?_⟩
  · by_cases e : j = p
    · subst e
      simp only [if_pos]
      exact World.cell?_setCell_same w _ _ (h j hj).1
    · simp only [if_neg e]
      rw [World.cell?_setCell_other w _ _ _ (by intro h; injection h; omega)]
      exact (h j hj).1
  · rw [World.frozen?_setCell]; exact (h j hj).2
theorem RowV.far {w : World} {g n : Nat} {v : Nat → Value} (h : RowV w g n v) (b p : Nat) (x : Value) (hb : b ≠ g) : RowV (w.setCell ⟨b, p, none⟩ x) g n v := by
  intro j hj
  refine ⟨?_, ?_⟩
  · rw [World.cell?_setCell_other w _ _ _ (by intro h; injection h; omega)]; exact (h j hj).1
  · rw [World.frozen?_setCell]; exact (h j hj).2
theorem RowV.below {w w' : World} {g n : Nat} {v : Nat → Value} (h : RowV w g n v) {B : Nat} (hb : Below B w w') (hg : g < B) : RowV w' g n v := by
  intro j hj
  refine ⟨(hb.cell (p := ⟨g, j, none⟩) hg).trans (h j hj).1, (hb.frozen (p := ⟨g, j, none⟩) hg).trans (h j hj).2⟩
def whN (a S : Nat) (wt : Nat → Nat) (j : Nat) : Nat := a * wt j / S
def rsN (a S : Nat) (wt : Nat → Nat) (j : Nat) : Nat := a * wt j % S
/-- What is left over. -/
def leftN (a S : Nat) (wt : Nat → Nat) (n : Nat) : Nat := a - sumN (whN a S wt) n
/-- What split leaves. -/
def SplitPost (t : Int) (n S : Nat) (wt : Nat → Nat) (w : World) (e : Ending) (w' : World) : Prop := ∃ g f, e = .returned (.slice (some ⟨g, 0, none⟩) n n) ∧ w.heap.size ≤ g ∧ g < w'.heap.size ∧ Good (rsN t.natAbs S wt) f 0 n ∧ RowV w' g n (fun j => .int .i64 (sg t * (bump f (whN t.natAbs S wt) (leftN t.natAbs S wt n) j : Int))) ∧ Below w.heap.size w w'

set_option maxHeartbeats 2000000 in
set_option maxRecDepth 100000 in
theorem split_any (t : Int) (wb o n cp S : Nat) (wt : Nat → Nat) (w : World) (ht : fitB t = true) (hn : n ≤ 64) (hwb : wb < w.heap.size) (hc : ∀ j, j < n → w.cell? ⟨wb, o + j, none⟩ = some (.int .i64 (wt j : Int))) (hS : S = sumN wt n) (h0 : 0 < S) (hS2 : S ≤ 72057594037927936) :
    Calls Try.prog 22 #[.int .i64 t, .slice (some ⟨wb, o, none⟩) n cp, .int .u64 S] w (SplitPost t n S wt w) := by
  have ht' : -1125899906842624 ≤ t ∧ t ≤ 1125899906842624 := by simpa [fitB] using ht
  have hAP := Lib.hid (apart_any t ht)
  obtain ⟨a, ha⟩ : ∃ a, a = t.natAbs := ⟨_, rfl⟩
  have hab : a ≤ 1125899906842624 := by omega
  obtain ⟨s, hs⟩ : ∃ s, s = sg t := ⟨_, rfl⟩
  have hSM := Lib.hid (sg_mul t)
  rw [← ha, ← hs] at hAP
  rw [← hs] at hSM
  have hs1 : s = 1 ∨ s = -1 := by rw [hs]; unfold sg; split <;> simp
  have HA := Lib.hid ha
  have HSG := Lib.hid hs
  clear ha hs ht ht'
  have HLT := Lib.hid (left_lt (a := a) hS h0)
  have hle : ∀ j, j < n → wt j ≤ S := fun j hj => by rw [hS]; exact sumN_le hj
  have hP := Lib.hid (fun j (hj : j < n) => portion_any a (wt j) S hab (hle j hj) h0 (by omega))
  have hmk1 := make_row Try.underlying26 infoCents n (by omega) w
  have hmk2 := make_row Try.underlying62 infoU64 n (by omega) (w.alloc (.cells (madeCells #[.int .i64 0] n) 30))
  have hz1 : (w.alloc (.cells (madeCells #[.int .i64 0] n) 30)).heap.size = w.heap.size + 1 := by simp
  rw [hz1] at hmk2
  have HC := Lib.hid hc
  have HLE := Lib.hid hle
  clear hc hle hS
  go_enter Try.func22, Try.ntmps22
  go_wp2_with fail
  refine (hAP.out _).mono ?_
  rintro e w1 ⟨rfl, hw1⟩
  rw [hw1]
  clear hw1 w1
  go_wp2
  have HR1 : Hid (RowV ((w.alloc (.cells (madeCells #[.int .i64 0] n) 30)).alloc (.cells (madeCells #[.int .u64 0] n) 50)) w.heap.size n (fun _ => .int .i64 0)) := Lib.hid (fun j hj => by
    have h := made_cell .i64 n j w 30 hj
    have hbb := (Below.refl (w.heap.size + 1) (w.alloc (.cells (madeCells #[.int .i64 0] n) 30))).alloc (by simp) (.cells (madeCells #[.int .u64 0] n) 50)
    exact ⟨(hbb.cell (p := ⟨w.heap.size, j, none⟩) (Nat.lt_succ_self _)).trans h.1, (hbb.frozen (p := ⟨w.heap.size, j, none⟩) (Nat.lt_succ_self _)).trans h.2⟩)
  have HR2 : Hid (RowV ((w.alloc (.cells (madeCells #[.int .i64 0] n) 30)).alloc (.cells (madeCells #[.int .u64 0] n) 50)) (w.heap.size + 1) n (fun _ => .int .u64 0)) := Lib.hid (fun j hj => by
    have h := made_cell .u64 n j (w.alloc (.cells (madeCells #[.int .i64 0] n) 30)) 50 hj
    rw [hz1] at h
    exact h)
  have hB0 := ((Below.refl w.heap.size w).alloc (Nat.le_refl _) (.cells (madeCells #[.int .i64 0] n) 30)).alloc (by simp) (.cells (madeCells #[.int .u64 0] n) 50)
  have hsz0 : w.heap.size + 1 < ((w.alloc (.cells (madeCells #[.int .i64 0] n) 30)).alloc (.cells (madeCells #[.int .u64 0] n) 50)).heap.size := by simp
  clear hmk1 hmk2 hz1
  obtain ⟨g1, hg1⟩ : ∃ g1, g1 = w.heap.size := ⟨_, rfl⟩
  obtain ⟨g2, hg2⟩ : ∃ g2, g2 = w.heap.size + 1 := ⟨_, rfl⟩
  rw [← hg1] at HR1
  rw [← hg2] at HR2 hsz0
  simp only [← hg2]
  simp only [← hg1]
  generalize ((w.alloc (.cells (madeCells #[.int .i64 0] n) 30)).alloc (.cells (madeCells #[.int .u64 0] n) 50)) = W0 at HR1 HR2 hB0 hsz0 ⊢
  have q12 : g1 < g2 := by omega
  have qw1 : w.heap.size ≤ g1 := by omega
  have qw2 : w.heap.size ≤ g2 := by omega
  have qn1 : g1 ≠ g2 := by omega
  have qn2 : g2 ≠ g1 := by omega
  clear hg1 hg2
  go_loopw [11, 32] (fun lv kv wr => ∃ k lf : Nat, ∃ vp vr : Nat → Value, k ≤ n ∧ kv = .int .i64 k ∧ lv = .int .u64 lf ∧ Hid (lf + sumN (whN a S wt) k = a) ∧ Hid (RowV wr g1 n vp) ∧ Hid (RowV wr g2 n vr) ∧ Hid (∀ j, j < k → vp j = .int .i64 (s * (whN a S wt j : Int)) ∧ vr j = .int .u64 (rsN a S wt j : Int)) ∧ Below w.heap.size w wr ∧ g2 < wr.heap.size) (fun _ kv _ => n - (RowKit.intOf kv).toNat)
  case atStart => exact ⟨0, a, _, _, by omega, rfl, rfl, Lib.hid rfl, HR1, HR2, Lib.hid (fun j h => by omega), hB0, hsz0⟩
  case round =>
    clear HR1 HR2 hB0 hsz0
    obtain ⟨k, lf, vp, vr, hk, rfl, rfl, HL, HR1, HR2, HF, hb, hsz⟩ := hrel
    by_cases hlt : k < n
    · have ck : wr.cell? ⟨wb, o + k, none⟩ = some (.int .i64 (wt k : Int)) := (hb.cell (p := ⟨wb, o + k, none⟩) hwb).trans (HC.out k hlt)
      have c1 := (HR1.out k hlt).1
      have f1 := (HR1.out k hlt).2
      have c2 := (HR2.out k hlt).1
      have f2 := (HR2.out k hlt).2
      generalize vp k = o1 at c1
      generalize vr k = o2 at c2
      have hPk := Lib.hid (hP.out k hlt)
      have hwk := HLE.out k hlt
      have hQa := part_le a (wt k) S hwk
      have hsm : sumN (whN a S wt) (k + 1) ≤ sumN (whN a S wt) n := sumN_mono hlt
      have hsn : sumN (whN a S wt) n ≤ a := HLT.out.1
      have hL := HL.out
      rw [sumN] at hsm
      obtain ⟨Q, hQ⟩ : ∃ Q, Q = a * wt k / S := ⟨_, rfl⟩
      obtain ⟨R, hR⟩ : ∃ R, R = a * wt k % S := ⟨_, rfl⟩
      rw [show whN a S wt k = Q by rw [hQ]; rfl] at hsm
      obtain ⟨lf', hlf'⟩ : ∃ lf', lf' = lf - Q := ⟨_, rfl⟩
      have HL2 : Hid (lf' + sumN (whN a S wt) (k + 1) = a) := Lib.hid (by rw [sumN, show whN a S wt k = Q by rw [hQ]; rfl, hlf']; omega)
      have v6 : (lf : Int) - (Q : Int) = (lf' : Int) := by omega
      have v7 : IntKind.u64.wrap (lf' : Int) = (lf' : Int) := wrap_in _ (by omega)
      rw [← hQ, ← hR] at hPk
      rw [← hQ] at hQa
      have HR1' := Lib.hid ((HR1.out.store k (.int .i64 (s * (Q : Int)))).far g2 k (.int .u64 (R : Int)) qn2)
      have HR2' := Lib.hid ((HR2.out.far g1 k (.int .i64 (s * (Q : Int))) qn1).store k (.int .u64 (R : Int)))
      have HF2 : Hid (∀ j, j < k + 1 → (if j = k then .int .i64 (s * (Q : Int)) else vp j) = .int .i64 (s * (whN a S wt j : Int)) ∧ (if j = k then .int .u64 (R : Int) else vr j) = .int .u64 (rsN a S wt j : Int)) := Lib.hid (fun j hj => by
        by_cases e : j = k
        · rw [if_pos e, if_pos e, e, hQ, hR]; exact ⟨rfl, rfl⟩
        · rw [if_neg e, if_neg e]; exact HF.out j (by omega))
      have hsQ := hSM.out Q (by omega)
      have v1 : IntKind.u64.wrap (wt k : Int) = (wt k : Int) := wrap_in _ (by omega)
      have v2 : IntKind.i64.wrap (Q : Int) = (Q : Int) := wrap_i _ (by omega) (by omega)
      generalize wt k = x at ck hPk v1
      clear hsm hsn hL hQ hR hlf' hwk
      go_wp2_with fail
      refine (hPk.out _).mono ?_
      rintro e w1 ⟨rfl, m, rfl⟩
      go_wp2
      refine ⟨⟨k + 1, lf', _, _, by omega, by go_num, rfl, HL2, Lib.hid (fun j hj => HR1'.out j hj), Lib.hid (fun j hj => HR2'.out j hj), HF2, ((below_drewN hb m).setCell qw1 _).setCell qw2 _, by simpa [World.setCell] using hsz⟩, by simp [RowKit.intOf]; omega⟩
    · obtain rfl : k = n := by omega
      have HBY := Lib.hid (byRests_any k g2 k (rsN a S wt) wr (by omega) hsz (fun j hj => by rw [(HR2.out j hj).1, (HF.out j hj).2]))
      have HP0 : Hid (RowV wr g1 k (fun j => .int .i64 (s * (bump (fun _ => 0) (whN a S wt) 0 j : Int)))) := Lib.hid (fun j hj => ⟨by rw [(HR1.out j hj).1, (HF.out j hj).1]; rfl, (HR1.out j hj).2⟩)
      have hLL := HLT.out.2.1
      have hL := HL.out
      have hL2 : a - sumN (whN a S wt) k < k := hLL
      have hlk : lf < k := by omega
      have HLF : Hid (lf = leftN a S wt k) := Lib.hid (by unfold leftN; omega)
      have r1 : (lf : Int) ≤ (k : Int) := by omega
      clear hLL hL hL2 HR1 HR2 HF HL
      go_wp2_with fail
      refine (HBY.out).mono ?_
      rintro e w1 ⟨g3, f, rfl, hg3, hg3', hrow, hgood, hbel⟩
      have HROW := Lib.hid hrow
      have HGOOD := Lib.hid hgood
      clear hrow hgood HBY
      go_wp2
      have HP1 : Hid (RowV w1 g1 k (fun j => .int .i64 (s * (bump f (whN a S wt) 0 j : Int)))) := Lib.hid (HP0.out.below hbel (by omega))
      have hbw : Below w.heap.size w w1 := hb.trans (hbel.mono (by omega))
      have qw3 : w.heap.size ≤ g3 := by omega
      have qn3 : g3 ≠ g1 := by omega
      have qn4 : g1 ≠ g3 := by omega
      have hg1w : g1 < w1.heap.size := by omega
      clear hb hbel hg3 hg3' HP0
      go_loopw [17, 65] (fun _ mv wr => ∃ m : Nat, m ≤ lf ∧ mv = .int .i64 m ∧ Hid (RowV wr g1 k (fun j => .int .i64 (s * (bump f (whN a S wt) m j : Int)))) ∧ Hid (Row wr g3 k f) ∧ Below w.heap.size w wr ∧ g1 < wr.heap.size) (fun _ mv _ => lf - (RowKit.intOf mv).toNat)
      case atStart => exact ⟨0, by omega, rfl, HP1, HROW, hbw, hg1w⟩
      case round =>
        clear HP1 HROW hbw hg1w
        obtain ⟨m, hm, rfl, HPM, HRM, hbm, hgm⟩ := hrel
        by_cases hlt2 : m < lf
        · have cm := (HRM.out m (by omega)).1
          have hfm := (HGOOD.out.2.1 m (by omega) (by omega)).2
          have c1 := (HPM.out (f m) hfm).1
          have f1 := (HPM.out (f m) hfm).2
          have hBl := bump_le f (whN a S wt) m (f m)
          have hwl := part_le a (wt (f m)) S (HLE.out (f m) hfm)
          have hwl2 : whN a S wt (f m) ≤ a := hwl
          obtain ⟨B, hB⟩ : ∃ B, B = bump f (whN a S wt) m (f m) := ⟨_, rfl⟩
          obtain ⟨X, hX⟩ : ∃ X : Int, X = s * (B : Int) := ⟨_, rfl⟩
          obtain ⟨Y, hY⟩ : ∃ Y : Int, Y = s * ((B + 1 : Nat) : Int) := ⟨_, rfl⟩
          simp only [← hB, ← hX] at c1
          have hXY : X + s = Y := by rw [hX, hY, Int.natCast_add, Int.mul_add]; simp
          have hYw : IntKind.i64.wrap Y = Y := by rw [hY]; exact hSM.out (B + 1) (by omega)
          have HPN := HPM.out.store (f m) (.int .i64 Y)
          have HRN : Hid (Row (wr.setCell ⟨g1, f m, none⟩ (.int .i64 Y)) g3 k f) := Lib.hid (fun j hj => by
            refine ⟨?_, ?_⟩
            · rw [World.cell?_setCell_other wr _ _ _ (by intro h; injection h; omega)]; exact (HRM.out j hj).1
            · rw [World.frozen?_setCell]; exact (HRM.out j hj).2)
          have HPN2 : Hid (RowV (wr.setCell ⟨g1, f m, none⟩ (.int .i64 Y)) g1 k (fun j => .int .i64 (s * (bump f (whN a S wt) (m + 1) j : Int)))) := Lib.hid (fun j hj => by
            refine ⟨(HPN j hj).1.trans ?_, (HPN j hj).2⟩
            simp only [bump]
            by_cases e : j = f m
            · rw [if_pos e, if_pos e, e, ← hB, hY]
            · rw [if_neg e, if_neg e])
          have i1 : (f m : Int) < (k : Int) := by omega
          clear hB hX hY HPN hBl hwl hwl2
          generalize f m = x at cm c1 f1 HRN HPN2 i1 hfm
          go_wp2
          exact ⟨⟨m + 1, by omega, by go_num, HPN2, HRN, hbm.setCell qw1 _, by simpa [World.setCell] using hgm⟩, by simp [RowKit.intOf]; omega⟩
        · obtain rfl : m = lf := by omega
          go_wp2
          go_ret
          refine ⟨g1, f, rfl, qw1, hgm, ?_, ?_, hbm⟩
          · rw [← HA.out]; exact HGOOD.out
          · rw [← HA.out, ← HSG.out, ← HLF.out]; exact HPM.out

end Go.Proofs.Ytkhjlpjhmdmfiaa
