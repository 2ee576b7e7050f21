/-
  What is proved: the contracts of the document's own Of and To of the calendar. Conditions: as each says.
-/
import Derived.Test.YtpejdbnphjheeaaDoorLvR
namespace Go.Proofs.YtpejdbnphjheeaaDoor.Cv
open Go Go.RowKit Go.Proofs

theorem bcell {W w1 : World} (hb : Below W.heap.size W w1) : (∀ b o, b < W.heap.size → w1.cell? ⟨b, o, none⟩ = W.cell? ⟨b, o, none⟩) := fun b o h => hb.cell (p := ⟨b, o, none⟩) h

theorem rmonth3 (p q : Int) (g : Nat) (x0 x1 x2 : Value) (w : World) (h0 : w.cell? ⟨g, 0, none⟩ = some x0) (h1 : w.cell? ⟨g, 1, none⟩ = some x1) (h2 : w.cell? ⟨g, 2, none⟩ = some x2) :
    Calls Tryd.prog 25 #[.int .i64 p, .int .i64 q] w fun e w' => e = .returned (.int .i64 (mdV p q)) ∧ w'.cell? ⟨g, 0, none⟩ = some x0 ∧ w'.cell? ⟨g, 1, none⟩ = some x1 ∧ w'.cell? ⟨g, 2, none⟩ = some x2 ∧ Below w.heap.size w w' :=
  (rmonth_any p q w).mono fun _ _ ⟨h, hb⟩ => by
    have hg : g < w.heap.size := World.block_lt_of_cell? w _ h0
    exact ⟨h, (bcell hb g 0 hg).trans h0, (bcell hb g 1 hg).trans h1, (bcell hb g 2 hg).trans h2, hb⟩

theorem new3 (w : World) (x y z : Value) (t : TypeId) : (w.alloc (.cells #[x, y, z] t)).cell? ⟨w.heap.size, 0, none⟩ = some x ∧ (w.alloc (.cells #[x, y, z] t)).cell? ⟨w.heap.size, 1, none⟩ = some y ∧ (w.alloc (.cells #[x, y, z] t)).cell? ⟨w.heap.size, 2, none⟩ = some z :=
  ⟨by rw [World.cell?_alloc_new]; rfl, by rw [World.cell?_alloc_new]; rfl, by rw [World.cell?_alloc_new]; rfl⟩
theorem newf3 (w : World) (x y z : Value) (t : TypeId) : (w.alloc (.cells #[x, y, z] t)).frozen? ⟨w.heap.size, 0, none⟩ = false ∧ (w.alloc (.cells #[x, y, z] t)).frozen? ⟨w.heap.size, 1, none⟩ = false ∧ (w.alloc (.cells #[x, y, z] t)).frozen? ⟨w.heap.size, 2, none⟩ = false := by
  simp [World.frozen?_alloc_mark]
/-- Three cells lie in block g, and may be written. -/
def Own3 (g : Nat) (w : World) : Prop := (∃ v, w.cell? ⟨g, 0, none⟩ = some v) ∧ (∃ v, w.cell? ⟨g, 1, none⟩ = some v) ∧ (∃ v, w.cell? ⟨g, 2, none⟩ = some v) ∧ w.frozen? ⟨g, 0, none⟩ = false ∧ w.frozen? ⟨g, 1, none⟩ = false ∧ w.frozen? ⟨g, 2, none⟩ = false
theorem Own3.below {g : Nat} {w w' : World} (h : Own3 g w) (hb : Below w.heap.size w w') (hg : g < w.heap.size) : Own3 g w' := by
  obtain ⟨⟨v0, c0⟩, ⟨v1, c1⟩, ⟨v2, c2⟩, f0, f1, f2⟩ := h
  exact ⟨⟨v0, (bcell hb g 0 hg).trans c0⟩, ⟨v1, (bcell hb g 1 hg).trans c1⟩, ⟨v2, (bcell hb g 2 hg).trans c2⟩, (hb.frozen (p := ⟨g, 0, none⟩) hg).trans f0, (hb.frozen (p := ⟨g, 1, none⟩) hg).trans f1, (hb.frozen (p := ⟨g, 2, none⟩) hg).trans f2⟩

set_option maxHeartbeats 2000000 in
theorem rof_no (y m d : Int) (h : okB y m d = false) (w : World) : Calls Tryd.prog 24 #[.agg #[.int .i64 y, .int .i64 m, .int .i64 d]] w fun e w' => e = .returned (.tuple #[.int .i64 0, .bool false]) ∧ Below w.heap.size w w' := by
  by_cases h1 : d < 1
  · have d1 : decide (d < 1) = true := decide_eq_true h1
    clear h
    go_enter Tryd.func24, Tryd.ntmps24
    go_wp2
    go_quiet (fail)
    go_wp2
    go_ret2
    exact ⟨rfl, below_drewN ((Below.refl _ _).alloc (Nat.le_refl _) _) _⟩
  · have d1 : decide (d < 1) = false := decide_eq_false h1
    have d2 : decide (mdV y m < d) = true := by
      simp only [okB, Bool.and_eq_false_iff, decide_eq_false_iff_not] at h
      apply decide_eq_true; omega
    clear h
    have hB := (Below.refl w.heap.size w).alloc (Nat.le_refl _) (.cells #[.int .i64 y, .int .i64 m, .int .i64 d] 39)
    obtain ⟨c0, c1, c2⟩ := new3 w (.int .i64 y) (.int .i64 m) (.int .i64 d) 39
    generalize hg : w.heap.size = g at hB c0 c1 c2 ⊢
    go_enter Tryd.func24, Tryd.ntmps24
    go_upto_region 1 with fail
    clear hg
    generalize w.alloc (.cells #[.int .i64 y, .int .i64 m, .int .i64 d] 39) = w1 at hB c0 c1 c2 ⊢
    have hg1 : g < w1.heap.size := World.block_lt_of_cell? w1 _ c0
    go_region_held3 (fun w' => w'.cell? ⟨g, 0, none⟩ = some (.int .i64 y) ∧ w'.cell? ⟨g, 1, none⟩ = some (.int .i64 m) ∧ w'.cell? ⟨g, 2, none⟩ = some (.int .i64 d)) (go_keep)
      (first | (go_at_call 25; refine (rmonth3 y m g (.int .i64 y) (.int .i64 m) (.int .i64 d) _ ?_ ?_ ?_).mono ?_; (simp [*]); (simp [*]); (simp [*]); rintro e w' ⟨rfl, k0, k1, k2, hb⟩))
    have hb2 : Below g w w' := hB.drew.trans (hb.mono (Nat.le_of_lt hg1))
    go_wp2
    go_ret2
    exact ⟨rfl, hb2⟩

set_option maxHeartbeats 2000000 in
theorem rof_yes (y m d : Int) (h : okB y m d = true) (w : World) : Calls Tryd.prog 24 #[.agg #[.int .i64 y, .int .i64 m, .int .i64 d]] w fun e w' => e = .returned (.tuple #[.int .i64 (num y m d), .bool true]) ∧ Below w.heap.size w w' := by
  obtain ⟨y1, y2, m1, m2, dd1, dd2⟩ := okB_iff.1 h
  have hdb := dim_bd y m
  have hjb := jan_bd y y1 (by omega)
  have d1 : decide (d < 1) = false := decide_eq_false (by omega)
  have d2 : decide (mdV y m < d) = false := by rw [mdV_in y1 y2 m1 m2]; exact decide_eq_false (by omega)
  have dd3 : d ≤ 31 := by omega
  clear h dd2
  have hB := (Below.refl w.heap.size w).alloc (Nat.le_refl _) (.cells #[.int .i64 y, .int .i64 m, .int .i64 d] 39)
  obtain ⟨c0, c1, c2⟩ := new3 w (.int .i64 y) (.int .i64 m) (.int .i64 d) 39
  generalize hg : w.heap.size = g at hB c0 c1 c2 ⊢
  go_enter Tryd.func24, Tryd.ntmps24
  go_upto_region 1 with fail
  clear hg
  generalize w.alloc (.cells #[.int .i64 y, .int .i64 m, .int .i64 d] 39) = w1 at hB c0 c1 c2 ⊢
  have hg1 : g < w1.heap.size := World.block_lt_of_cell? w1 _ c0
  go_region_held3 (fun w' => w'.cell? ⟨g, 0, none⟩ = some (.int .i64 y) ∧ w'.cell? ⟨g, 1, none⟩ = some (.int .i64 m) ∧ w'.cell? ⟨g, 2, none⟩ = some (.int .i64 d)) (go_keep)
    (first | (go_at_call 25; refine (rmonth3 y m g (.int .i64 y) (.int .i64 m) (.int .i64 d) _ ?_ ?_ ?_).mono ?_; (simp [*]); (simp [*]); (simp [*]); rintro e w' ⟨rfl, k0, k1, k2, hb⟩))
  have hb2 : Below g w w' := hB.drew.trans (hb.mono (Nat.le_of_lt hg1))
  have hg2 : g < w'.heap.size := World.block_lt_of_cell? w' _ k0
  clear hB hb c0 c1 c2 hg1
  go_wp2
  go_loop [4, 5] (fun nv yv => ∃ z : Int, 1900 ≤ z ∧ z ≤ y ∧ yv = .int .i64 z ∧ nv = .int .i64 (jan z)) (fun _ yv => (y - RowKit.intOf yv).toNat)
  case atStart => exact ⟨1900, by omega, y1, rfl, by rw [jan_first]⟩
  case round =>
    obtain ⟨z, z1, z2, rfl, rfl⟩ := hrel
    have hzb := jan_bd z z1 (by omega)
    by_cases hlt : z < y
    · have HS := Lib.hid (jan_succ z)
      have hlb := lp_bd z
      have hyv : 365 ≤ yearV z ∧ yearV z ≤ 366 := by unfold yearV; omega
      go_wp2_with (go_at_call 26; refine (ryear_any _ (by omega) _).mono ?_; rintro e w' ⟨rfl, rfl⟩)
      go_round
      case rel => exact ⟨z + 1, by omega, by omega, rfl, congrArg (Value.int .i64) (by rw [HS.out]; unfold yearV; omega)⟩
      case measure => simp [RowKit.intOf]; omega
    · obtain rfl : z = y := by omega
      go_wp2
      go_loopw [4, 6] (fun nv mv wr => ∃ k : Int, 1 ≤ k ∧ k ≤ m ∧ mv = .int .i64 k ∧ nv = .int .i64 (jan z + cum z k) ∧ Below g w wr ∧ g < wr.heap.size ∧ wr.cell? ⟨g, 0, none⟩ = some (.int .i64 z) ∧ wr.cell? ⟨g, 1, none⟩ = some (.int .i64 m) ∧ wr.cell? ⟨g, 2, none⟩ = some (.int .i64 d)) (fun _ mv _ => (m - RowKit.intOf mv).toNat)
      case atStart => exact ⟨1, by omega, m1, rfl, by rw [cum_one]; simp, hb2, hg2, k0, k1, k2⟩
      case round =>
        clear hb2 hg2 k0 k1 k2
        obtain ⟨k, q1, q2, rfl, rfl, hb2, hg2, k0, k1, k2⟩ := hrel
        have hcb := cum_bd z k
        by_cases hlt : k < m
        · have HS := Lib.hid (cum_succ z k q1 (by omega))
          have HM := Lib.hid (mdV_in (m := k) y1 y2 q1 (by omega))
          have hmb := mdV_bd z k
          go_wp2_with fail
          refine (rmonth3 z k g (.int .i64 z) (.int .i64 m) (.int .i64 d) _ k0 k1 k2).mono ?_
          rintro e w3 ⟨rfl, j0, j1, j2, hb3⟩
          have hb4 : Below g w w3 := hb2.trans (hb3.mono (Nat.le_of_lt hg2))
          have hg4 : g < w3.heap.size := Nat.lt_of_lt_of_le hg2 hb3.size
          clear hb2 hb3 hg2 k0 k1 k2
          go_wp2
          go_roundw
          case rel => exact ⟨k + 1, by omega, by omega, rfl, congrArg (Value.int .i64) (by rw [HS.out, HM.out]; omega), hb4, hg4, j0, j1, j2⟩
          case measure => simp [RowKit.intOf]; omega
        · obtain rfl : k = m := by omega
          go_wp2
          go_ret2
          exact ⟨ret_pair (by unfold num; omega), hb2⟩

/-- The year and the month of a day, read off by the document. -/
theorem rto_yes (y m d n : Int) (h : okB y m d = true) (hn : num y m d = n) (w : World) : Calls Tryd.prog 14 #[.int .i64 n] w fun e w' => e = .returned (.agg #[.int .i64 y, .int .i64 m, .int .i64 d]) ∧ Below w.heap.size w w' := by
  obtain ⟨n1, n2⟩ := num_bd h
  obtain ⟨i1, i2, i3, i4⟩ := num_in h
  rw [hn] at n1 n2 i1 i2 i3 i4
  obtain ⟨y1, y2, m1, m2, -, -⟩ := okB_iff.1 h
  have HD : Hid (d = n - jan y - cum y m + 1) := Lib.hid (by unfold num at hn; omega)
  clear h hn
  have hB := (Below.refl w.heap.size w).alloc (Nat.le_refl _) (.cells #[.int .i64 0, .int .i64 0, .int .i64 0] 39)
  obtain ⟨c0, c1, c2⟩ := new3 w (.int .i64 0) (.int .i64 0) (.int .i64 0) 39
  obtain ⟨f0, f1, f2⟩ := newf3 w (.int .i64 0) (.int .i64 0) (.int .i64 0) 39
  generalize hg : w.heap.size = g at hB c0 c1 c2 f0 f1 f2 ⊢
  go_enter Tryd.func14, Tryd.ntmps14
  go_wp2
  clear hg
  generalize w.alloc (.cells #[.int .i64 0, .int .i64 0, .int .i64 0] 39) = w1 at hB c0 c1 c2 f0 f1 f2 ⊢
  have hg1 : g < w1.heap.size := World.block_lt_of_cell? w1 _ c0
  go_loop [3, 4] (fun nv t => ∃ z : Int, 1900 ≤ z ∧ z ≤ y ∧ t = .int .i64 z ∧ nv = .int .i64 (n - jan z)) (fun _ t => (y - RowKit.intOf t).toNat)
  case atStart => exact ⟨1900, by omega, y1, rfl, by rw [jan_first]; rfl⟩
  case round =>
    obtain ⟨z, z1, z2, rfl, rfl⟩ := hrel
    have hzb := jan_bd z z1 (by omega)
    have HS := Lib.hid (jan_succ z)
    have hlb := lp_bd z
    have hyv : 365 ≤ yearV z ∧ yearV z ≤ 366 := by unfold yearV; omega
    by_cases hlt : z < y
    · have hj := jan_mono (z + 1) y (by omega)
      have hc : yearV z ≤ n - jan z := by have := HS.out; unfold yearV; omega
      go_wp2_with (go_at_call 26; refine (ryear_any _ (by omega) _).mono ?_; rintro e w' ⟨rfl, rfl⟩)
      go_round
      case rel => exact ⟨z + 1, by omega, by omega, rfl, congrArg (Value.int .i64) (by rw [HS.out]; unfold yearV; omega)⟩
      case measure => simp [RowKit.intOf]; omega
    · obtain rfl : z = y := by omega
      have hc : ¬ yearV z ≤ n - jan z := by have := HS.out; unfold yearV; omega
      go_wp2_with (go_at_call 26; refine (ryear_any _ (by omega) _).mono ?_; rintro e w' ⟨rfl, rfl⟩)
      clear hc
      go_loopw [3, 5] (fun r k wr => ∃ q : Int, 1 ≤ q ∧ q ≤ m ∧ k = .int .i64 q ∧ r = .int .i64 (n - jan z - cum z q) ∧ Below g w wr ∧ g < wr.heap.size ∧ Own3 g wr) (fun _ k _ => (m - RowKit.intOf k).toNat)
      case atStart => exact ⟨1, by omega, m1, rfl, by rw [cum_one]; simp, hB, hg1, ⟨⟨_, c0⟩, ⟨_, c1⟩, ⟨_, c2⟩, f0, f1, f2⟩⟩
      case round =>
        clear hB hg1 c0 c1 c2 f0 f1 f2
        obtain ⟨q, q1, q2, rfl, rfl, hB, hg1, hO⟩ := hrel
        have hcb := cum_bd z q
        have hdb := mdV_bd z q
        have HC := Lib.hid (cum_succ z q q1 (by omega))
        have HM := Lib.hid (mdV_in (m := q) y1 y2 q1 (by omega))
        by_cases hq : q < m
        · have hge : mdV z q ≤ n - jan z - cum z q := by
            have := cum_mono z q m q1 hq (by omega)
            rw [HM.out]; omega
          go_wp2_with fail
          refine (rmonth_any z q _).mono ?_
          rintro e w3 ⟨rfl, hb3⟩
          have hO3 := hO.below hb3 hg1
          have hb4 : Below g w w3 := hB.trans (hb3.mono (Nat.le_of_lt hg1))
          have hg4 : g < w3.heap.size := Nat.lt_of_lt_of_le hg1 hb3.size
          clear hB hb3 hg1 hO
          go_wp2_with fail
          refine (rmonth_any z q _).mono ?_
          rintro e w5 ⟨rfl, hb5⟩
          have hO5 := hO3.below hb5 hg4
          have hb6 : Below g w w5 := hb4.trans (hb5.mono (Nat.le_of_lt hg4))
          have hg6 : g < w5.heap.size := Nat.lt_of_lt_of_le hg4 hb5.size
          clear hb4 hb5 hg4 hO3
          go_wp2
          go_roundw
          case rel => exact ⟨q + 1, by omega, by omega, rfl, congrArg (Value.int .i64) (by rw [HC.out, HM.out]; omega), hb6, hg6, hO5⟩
          case measure => simp [RowKit.intOf]; omega
        · obtain rfl : q = m := by omega
          have hge : ¬ mdV z q ≤ n - jan z - cum z q := by
            have := HC.out
            rw [HM.out]; omega
          go_wp2_with fail
          refine (rmonth_any z q _).mono ?_
          rintro e w3 ⟨rfl, hb3⟩
          obtain ⟨⟨v0, c0⟩, ⟨v1, c1⟩, ⟨v2, c2⟩, f0, f1, f2⟩ := hO.below hb3 hg1
          have hb4 : Below g w w3 := hB.trans (hb3.mono (Nat.le_of_lt hg1))
          obtain rfl := HD.out
          clear hB hb3 hg1 hO
          go_wp2
          exact bodyPost_ret (v := .agg #[.int .i64 z, .int .i64 q, .int .i64 (n - jan z - cum z q + 1)]) (by simp [results, Tryd.results14, go_sem, *]) rfl ⟨rfl, ((hb4.setCell (Nat.le_refl _) _).setCell (Nat.le_refl _) _).setCell (Nat.le_refl _) _⟩

end Go.Proofs.YtpejdbnphjheeaaDoor.Cv
