/-
  What is proved: the contracts of maps.Copy into an empty map, and of before's begin, check and room. Conditions: as each says.
-/
import Derived.Test.YtaeldoipflcknaaBfD
import Derived.Deep.RegionHeld3
namespace Go.Proofs.Ytaeldoipflcknaa
open Go Go.RowKit Go.Lib Go.Proofs
open Ra (fitsB fitsB_iff)
set_option linter.unusedVariables false

theorem copy_any (bd : Nat) (p : Option Nat) (L : Tb) (w : World) (hd : w.ownsMap Try.prog KT hR bd 0 (.map [])) (hs : SMo w p L) (hne : p ≠ some bd) (hroom : L.length ≤ maxLen) :
    Calls Try.prog 37 #[.map (some bd), .map p] w fun e w' => e = .returned (.tuple #[]) ∧ SM w' bd L ∧ w.grownBy w' (some bd) := by
  rcases hs with ⟨rfl, rfl⟩ | ⟨bs, rfl, D, h0, h1, h2, h3⟩
  · refine (AnyX.maps_Copy_opt Try.laysCopy lawS hR bd 0 none (.map []) .nil w hd (.inl ⟨rfl, rfl⟩) hne (by simp [Maps.size])).mono ?_
    rintro e w' ⟨he, ho, hg⟩
    refine ⟨he, ⟨.map [], ?_, fun s hs => ⟨rfl, fun z => rfl⟩, rfl, List.Pairwise.nil⟩, hg⟩
    exact ho
  · refine (AnyX.maps_Copy_opt Try.laysCopy lawS hR bd 0 (some bs) (.map []) D w hd (.inr ⟨bs, _, rfl, h0⟩) hne (by rw [h2]; omega)).mono ?_
    rintro e w' ⟨he, ho, hg⟩
    refine ⟨he, ⟨D, ?_, h1, h2, h3⟩, hg⟩
    have hm : Lib.mergeD (.map []) D = D := merge_empty (h0.canon lawS) (h0.canonK lawS)
    rw [hm, h2, Nat.zero_add] at ho
    exact ho

theorem set_in {w : World} {g i : Nat} {u v : Value} (h : w.cell? ⟨g, i, none⟩ = some u) : (w.setCell ⟨g, i, none⟩ v).cell? ⟨g, i, none⟩ = some v := World.cell?_setCell_same w _ _ h
theorem set_off {w : World} {g i j : Nat} {v : Value} (h : i ≠ j) : (w.setCell ⟨g, i, none⟩ v).cell? ⟨g, j, none⟩ = w.cell? ⟨g, j, none⟩ := World.cell?_setCell_other w _ _ _ (by intro e; injection e; omega)
abbrev put5 (w : World) (g : Nat) (v0 v1 v2 v3 v4 : Value) : World := ((((w.setCell ⟨g, 0, none⟩ v0).setCell ⟨g, 1, none⟩ v1).setCell ⟨g, 2, none⟩ v2).setCell ⟨g, 3, none⟩ v3).setCell ⟨g, 4, none⟩ v4
theorem put5_set {w : World} {g : Nat} {x0 x1 x2 x3 x4 : Value} (a0 : w.cell? ⟨g, 0, none⟩ = some x0) (a1 : w.cell? ⟨g, 1, none⟩ = some x1) (a2 : w.cell? ⟨g, 2, none⟩ = some x2) (a3 : w.cell? ⟨g, 3, none⟩ = some x3) (a4 : w.cell? ⟨g, 4, none⟩ = some x4) (v0 v1 v2 v3 v4 : Value) :
    (put5 w g v0 v1 v2 v3 v4).cell? ⟨g, 0, none⟩ = some v0 ∧ (put5 w g v0 v1 v2 v3 v4).cell? ⟨g, 1, none⟩ = some v1 ∧ (put5 w g v0 v1 v2 v3 v4).cell? ⟨g, 2, none⟩ = some v2 ∧ (put5 w g v0 v1 v2 v3 v4).cell? ⟨g, 3, none⟩ = some v3 ∧ (put5 w g v0 v1 v2 v3 v4).cell? ⟨g, 4, none⟩ = some v4 := by
  refine ⟨?_, ?_, ?_, ?_, ?_⟩
  · exact (set_off (by omega)).trans ((set_off (by omega)).trans ((set_off (by omega)).trans ((set_off (by omega)).trans (set_in a0))))
  · exact (set_off (by omega)).trans ((set_off (by omega)).trans ((set_off (by omega)).trans (set_in ((set_off (by omega)).trans a1))))
  · exact (set_off (by omega)).trans ((set_off (by omega)).trans (set_in ((set_off (by omega)).trans ((set_off (by omega)).trans a2))))
  · exact (set_off (by omega)).trans (set_in ((set_off (by omega)).trans ((set_off (by omega)).trans ((set_off (by omega)).trans a3))))
  · exact set_in ((set_off (by omega)).trans ((set_off (by omega)).trans ((set_off (by omega)).trans ((set_off (by omega)).trans a4))))
theorem put5_below {B : Nat} {w0 w : World} {g : Nat} (hb : Below B w0 w) (hg : B ≤ g) (v0 v1 v2 v3 v4 : Value) : Below B w0 (put5 w g v0 v1 v2 v3 v4) :=
  ((((hb.setCell (p := ⟨g, 0, none⟩) hg v0).setCell (p := ⟨g, 1, none⟩) hg v1).setCell (p := ⟨g, 2, none⟩) hg v2).setCell (p := ⟨g, 3, none⟩) hg v3).setCell (p := ⟨g, 4, none⟩) hg v4
theorem put5_block {w : World} {g b : Nat} (h : b ≠ g) (v0 v1 v2 v3 v4 : Value) : (put5 w g v0 v1 v2 v3 v4).heap[b]? = w.heap[b]? := by
  unfold put5
  rw [Below.heap_setCell _ _ _ _ (by show b ≠ g; exact h), Below.heap_setCell _ _ _ _ (by show b ≠ g; exact h), Below.heap_setCell _ _ _ _ (by show b ≠ g; exact h), Below.heap_setCell _ _ _ _ (by show b ≠ g; exact h), Below.heap_setCell _ _ _ _ (by show b ≠ g; exact h)]

set_option maxHeartbeats 2000000 in
theorem begin_any (g : Int) (p : Option Nat) (L : Tb) (bl : Option Nat) (w : World) (hs : SMo w p L) (hroom : L.length ≤ maxLen) :
    Calls Try.prog 24 #[.int .i64 g, .map p, .map bl] w fun e w' => ∃ b, e = .returned (.agg #[.int .i64 (max g 0), .int .i64 (max g 0), .map p, .map (some b), .map bl]) ∧ SM w' b L ∧ w.heap.size ≤ b ∧ Below w.heap.size w w' := by
  have hmm := @run_makeMap Try.prog
  have HG := Lib.hid (fun W => great_any g 0 W)
  generalize max g 0 = m at HG ⊢
  have hlt := hs.lt
  obtain ⟨W1, hW1⟩ : ∃ W1, W1 = w.alloc (.cells #[.int .i64 0, .int .i64 0, .map none, .map none, .map none] 66) := ⟨_, rfl⟩
  have hb1 : Below w.heap.size w W1 := by rw [hW1]; exact (Below.refl w.heap.size w).alloc (Nat.le_refl _) _
  have hz1 : W1.heap.size = w.heap.size + 1 := by rw [hW1]; simp
  have hc1 : ∀ j, W1.cell? ⟨w.heap.size, j, none⟩ = #[Value.int .i64 0, .int .i64 0, .map none, .map none, .map none][j]? := fun j => by rw [hW1]; exact World.cell?_alloc_new _ _ _ _
  have hf1 : ∀ j, W1.frozen? ⟨w.heap.size, j, none⟩ = false := fun j => by rw [hW1]; simp
  have hM := World.ownsMap_made W1 Try.prog KT (R := hR)
  have HC := Lib.hid (copy_any W1.heap.size p L (W1.alloc (.map #[] 0)) hM ((hs.kb hlt hb1).below ((Below.refl W1.heap.size W1).alloc (Nat.le_refl _) _)) (by intro e; have := hlt _ e; omega) hroom)
  have hb2 := hb1.alloc (o := .map #[] 0) (by omega)
  go_enter Try.func24, Try.ntmps24
  go_upto_region 1 with fail
  rw [← hW1]
  replace hz1 := Lib.hid hz1
  clear hW1
  go_wp2_with fail
  refine (HC.out).mono ?_
  rintro e w3 ⟨rfl, hm3, hg3⟩
  clear hmm
  have hk3 : ∀ j, w3.cell? ⟨w.heap.size, j, none⟩ = #[Value.int .i64 0, .int .i64 0, .map none, .map none, .map none][j]? := fun j => by
    rw [← hc1 j, World.cell?_of_block (hg3.block w.heap.size (by have := hz1.out; simp; omega) (by intro e; have := hz1.out; injection e; omega)), World.cell?_alloc_lt _ _ _ (by have := hz1.out; show w.heap.size < _; omega)]
  have hf3 : ∀ j, w3.frozen? ⟨w.heap.size, j, none⟩ = false := fun j => by
    rw [← hf1 j, World.frozen?_of_block (hg3.block w.heap.size (by have := hz1.out; simp; omega) (by intro e; have := hz1.out; injection e; omega)), World.frozen?_alloc_old _ _ _ (by have := hz1.out; show w.heap.size ≠ _; omega)]
  have hb3 := hb2.grown hg3 (by have := hz1.out; simp; omega) (fun k hk => by have := hz1.out; injection hk; omega)
  have c0 := hk3 0
  have c1 := hk3 1
  have c2 := hk3 2
  have c3 := hk3 3
  have c4 := hk3 4
  have f0 := hf3 0
  have f1 := hf3 1
  have f2 := hf3 2
  have f3 := hf3 3
  have f4 := hf3 4
  generalize W1.heap.size = b at hm3 hz1 ⊢
  clear hk3 hf3 hc1 hf1 HC hM hg3 hb2 hb1
  have HM := Lib.hid hm3
  have HB := Lib.hid hb3
  clear hm3 hb3
  go_wp2_with fail
  refine (HG.out _).mono ?_
  rintro e w4 ⟨rfl, rfl⟩
  go_wp2
  obtain ⟨t0, t1, t2, t3, t4⟩ := put5_set c0 c1 c2 c3 c4 (.int .i64 m) (.int .i64 m) (.map p) (.map (some b)) (.map bl)
  have hbg : b ≠ w.heap.size := by have := hz1.out; omega
  have hbb : w.heap.size ≤ b := by have := hz1.out; omega
  exact bodyPost_ret (v := .agg #[.int .i64 m, .int .i64 m, .map p, .map (some b), .map bl]) (by simp [results, Try.results24, go_sem, t0, t1, t2, t3, t4]) rfl ⟨b, rfl, HM.out.block (put5_block hbg _ _ _ _ _), hbb, put5_below HB.out (Nat.le_refl _) _ _ _ _ _⟩

/-- What is wrong with an item. -/
def itE (was : Ti) (it : ByteArray × Int) : Int := if nameB it.1 = false then 12 else if (fit0 it.2 && fit0 (atI was it.1)) = false then 2 else 0
set_option maxHeartbeats 2000000 in
theorem check_any (g l : Int) (p : Option Nat) (b bl : Option Nat) (was : Ti) (s : ByteArray) (c : Int) (w : World) (hs : s.size ≤ maxLen) (hw : SMo w p (vT was)) :
    Calls Try.prog 25 #[.agg #[.int .i64 g, .int .i64 l, .map p, .map b, .map bl], .agg #[.string s, .int .i64 c]] w fun e w' => e = .returned (.int .i64 (itE was (s, c))) ∧ Below w.heap.size w w' := by
  have HI := Lib.hid (fun W => isName_max s (sz_big hs) W)
  rw [show nameL s.data.toList = nameB s from rfl] at HI
  have HA := Lib.hid (fun W => amount_any c W)
  have HA2 := Lib.hid (fun W => amount_any (atI was s) W)
  have hb := ((Below.refl w.heap.size w).alloc (Nat.le_refl _) (.cells #[.int .i64 g, .int .i64 l, .map p, .map b, .map bl] 66)).alloc (by simp) (.cells #[.string s, .int .i64 c] 43)
  have hlk : (Instr.lookup 30 (.map p) (.string s) false).run Try.prog ((w.alloc (.cells #[.int .i64 g, .int .i64 l, .map p, .map b, .map bl] 66)).alloc (.cells #[.string s, .int .i64 c] 43)) = .ok (.int .i64 (atI was s)) ((w.alloc (.cells #[.int .i64 g, .int .i64 l, .map p, .map b, .map bl] 66)).alloc (.cells #[.string s, .int .i64 c] 43)) := by
    have := (hw.below hb).look Try.underlying30 (zCt _) hs
    rwa [vT_lk] at this
  unfold itE
  dsimp only
  generalize atI was s = so at HA2 hlk ⊢
  cases h1 : nameB s
  · rw [h1] at HI
    clear h1 hlk HA HA2
    rw [if_pos rfl]
    go_enter Try.func25, Try.ntmps25
    go_wp2_with (first | (go_at_call 35; refine (HI.out _).mono ?_; rintro e w1 ⟨rfl, rfl⟩))
    go_ret
    exact ⟨rfl, hb⟩
  · rw [h1] at HI
    rw [if_neg (by simp)]
    cases h2 : fit0 c
    · rw [h2] at HA
      rw [Bool.false_and, if_pos rfl]
      clear h1 h2 hlk HA2
      go_enter Try.func25, Try.ntmps25
      go_wp2_with (first | (go_at_call 35; refine (HI.out _).mono ?_; rintro e w1 ⟨rfl, rfl⟩) | (go_at_call 36; refine (HA.out _).mono ?_; rintro e w1 ⟨rfl, rfl⟩))
      go_ret
      exact ⟨rfl, hb⟩
    · rw [h2] at HA
      rw [Bool.true_and]
      cases h3 : fit0 so
      all_goals
        rw [h3] at HA2
        first | rw [if_pos rfl] | rw [if_neg (by simp)]
        clear h1 h2 h3
        go_enter Try.func25, Try.ntmps25
        go_upto_region 3 with (first | (go_at_call 35; refine (HI.out _).mono ?_; rintro e w1 ⟨rfl, rfl⟩))
        go_wp2_with fail
        refine (HA.out _).mono ?_
        rintro e w1 ⟨rfl, rfl⟩
        go_wp2_with fail
        refine (HA2.out _).mono ?_
        rintro e w1 ⟨rfl, rfl⟩
        go_wp2
        go_ret
        exact ⟨rfl, hb⟩

end Go.Proofs.Ytaeldoipflcknaa
