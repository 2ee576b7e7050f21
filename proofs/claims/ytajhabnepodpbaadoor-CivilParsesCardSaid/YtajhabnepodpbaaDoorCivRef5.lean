/-
  What is proved: the contract of the document's own Parse of the calendar. Conditions: none.
-/
import Derived.Test.YtajhabnepodpbaaDoorCivRef4
import Derived.RegionTactic
namespace Go.Proofs.YtajhabnepodpbaaDoor
open Go Go.RowKit Go.Proofs

/-- Which number a digit's place belongs to. -/
def slotOf (k : Nat) : Nat := if 7 < k then 2 else if 4 < k then 1 else 0
/-- The three numbers, read on from place k. -/
def goOn (k : Nat) (a b c : Nat) : List UInt8 → Option (Nat × Nat × Nat)
  | [] => some (a, b, c)
  | x :: r =>
    if k = 4 ∨ k = 7 then goOn (k + 1) a b c r
    else if isDg x = true then (if 7 < k then goOn (k + 1) a b (10 * c + (x.toNat - 48)) r else if 4 < k then goOn (k + 1) a (10 * b + (x.toNat - 48)) c r else goOn (k + 1) (10 * a + (x.toNat - 48)) b c r)
    else none

theorem go_y (k A b c : Nat) (x : UInt8) (r : List UInt8) (h : k < 4) : goOn k A b c (x :: r) = if isDg x = true then goOn (k + 1) (10 * A + (x.toNat - 48)) b c r else none := by
  rw [goOn, if_neg (by omega : ¬ (k = 4 ∨ k = 7))]
  by_cases hx : isDg x = true
  · rw [if_pos hx, if_pos hx, if_neg (by omega : ¬ 7 < k), if_neg (by omega : ¬ 4 < k)]
  · rw [if_neg hx, if_neg hx]
theorem go_m (k A b c : Nat) (x : UInt8) (r : List UInt8) (h : 4 < k) (h2 : k < 7) : goOn k A b c (x :: r) = if isDg x = true then goOn (k + 1) A (10 * b + (x.toNat - 48)) c r else none := by
  rw [goOn, if_neg (by omega : ¬ (k = 4 ∨ k = 7))]
  by_cases hx : isDg x = true
  · rw [if_pos hx, if_pos hx, if_neg (by omega : ¬ 7 < k), if_pos (by omega : 4 < k)]
  · rw [if_neg hx, if_neg hx]
theorem go_d (k A b c : Nat) (x : UInt8) (r : List UInt8) (h : 7 < k) : goOn k A b c (x :: r) = if isDg x = true then goOn (k + 1) A b (10 * c + (x.toNat - 48)) r else none := by
  rw [goOn, if_neg (by omega : ¬ (k = 4 ∨ k = 7))]
  by_cases hx : isDg x = true
  · rw [if_pos hx, if_pos hx, if_pos (by omega : 7 < k)]
  · rw [if_neg hx, if_neg hx]
theorem go_skip (k A b c : Nat) (x : UInt8) (r : List UInt8) (h : k = 4 ∨ k = 7) : goOn k A b c (x :: r) = goOn (k + 1) A b c r := by
  rw [goOn, if_pos h]

theorem go_all {l : List UInt8} (hl : l.length = 10) (h4 : l[4]? = some 45) (h7 : l[7]? = some 45) :
    goOn 0 0 0 0 l = if isDateB l = true then some (yS l, mS l, dS l) else none := by
  obtain ⟨a, b, c, d, e, f, g, i, j, k, rfl⟩ := ten_list hl
  simp only [List.getElem?_cons_succ, List.getElem?_cons_zero, Option.some.injEq] at h4 h7
  subst h4 h7
  have key : isDateB [a, b, c, d, 45, f, g, 45, j, k] = (isDg a && (isDg b && (isDg c && (isDg d && (isDg f && (isDg g && (isDg j && isDg k))))))) := by
    simp [isDateB, fitsFrom, fitB]
  rw [key]
  rw [go_y _ _ _ _ _ _ (by omega)]
  cases ha : isDg a
  case false => simp
  rw [if_pos rfl]
  rw [go_y _ _ _ _ _ _ (by omega)]
  cases hb : isDg b
  case false => simp
  rw [if_pos rfl]
  rw [go_y _ _ _ _ _ _ (by omega)]
  cases hc : isDg c
  case false => simp
  rw [if_pos rfl]
  rw [go_y _ _ _ _ _ _ (by omega)]
  cases hd : isDg d
  case false => simp
  rw [if_pos rfl]
  rw [go_skip _ _ _ _ _ _ (by omega)]
  rw [go_m _ _ _ _ _ _ (by omega) (by omega)]
  cases hf : isDg f
  case false => simp
  rw [if_pos rfl]
  rw [go_m _ _ _ _ _ _ (by omega) (by omega)]
  cases hg : isDg g
  case false => simp
  rw [if_pos rfl]
  rw [go_skip _ _ _ _ _ _ (by omega)]
  rw [go_d _ _ _ _ _ _ (by omega)]
  cases hj : isDg j
  case false => simp
  rw [if_pos rfl]
  rw [go_d _ _ _ _ _ _ (by omega)]
  cases hk : isDg k
  case false => simp
  rw [if_pos rfl]
  simp [goOn, yS, mS, dS, readN]

/-- Three numbers lie in block g, and may be written. -/
def Tri (w : World) (g : Nat) (a b c : Nat) : Prop := (w.cell? ⟨g, 0, none⟩ = some (.int .i64 (a : Int)) ∧ w.cell? ⟨g, 1, none⟩ = some (.int .i64 (b : Int)) ∧ w.cell? ⟨g, 2, none⟩ = some (.int .i64 (c : Int))) ∧ w.frozen? ⟨g, 0, none⟩ = false ∧ w.frozen? ⟨g, 1, none⟩ = false ∧ w.frozen? ⟨g, 2, none⟩ = false
theorem tri_in {w : World} {g i : Nat} {u v : Value} (h : w.cell? ⟨g, i, none⟩ = some u) : (w.setCell ⟨g, i, none⟩ v).cell? ⟨g, i, none⟩ = some v := World.cell?_setCell_same w _ _ h
theorem tri_off {w : World} {g i j : Nat} {v : Value} (h : i ≠ j) : (w.setCell ⟨g, i, none⟩ v).cell? ⟨g, j, none⟩ = w.cell? ⟨g, j, none⟩ := World.cell?_setCell_other w _ _ _ (by intro e; injection e; omega)
theorem Tri.set0 {g a b c : Nat} {w : World} (h : Tri w g a b c) (v : Nat) : Tri (w.setCell ⟨g, 0, none⟩ (.int .i64 (v : Int))) g v b c := by
  obtain ⟨⟨x, y, z⟩, e, f, k⟩ := h
  exact ⟨⟨tri_in x, (tri_off (by omega)).trans y, (tri_off (by omega)).trans z⟩, (World.frozen?_setCell ..).trans e, (World.frozen?_setCell ..).trans f, (World.frozen?_setCell ..).trans k⟩
theorem Tri.set1 {g a b c : Nat} {w : World} (h : Tri w g a b c) (v : Nat) : Tri (w.setCell ⟨g, 1, none⟩ (.int .i64 (v : Int))) g a v c := by
  obtain ⟨⟨x, y, z⟩, e, f, k⟩ := h
  exact ⟨⟨(tri_off (by omega)).trans x, tri_in y, (tri_off (by omega)).trans z⟩, (World.frozen?_setCell ..).trans e, (World.frozen?_setCell ..).trans f, (World.frozen?_setCell ..).trans k⟩
theorem Tri.set2 {g a b c : Nat} {w : World} (h : Tri w g a b c) (v : Nat) : Tri (w.setCell ⟨g, 2, none⟩ (.int .i64 (v : Int))) g a b v := by
  obtain ⟨⟨x, y, z⟩, e, f, k⟩ := h
  exact ⟨⟨(tri_off (by omega)).trans x, (tri_off (by omega)).trans y, tri_in z⟩, (World.frozen?_setCell ..).trans e, (World.frozen?_setCell ..).trans f, (World.frozen?_setCell ..).trans k⟩

set_option maxHeartbeats 1000000 in
theorem rparse_short (s : ByteArray) (h : s.size ≠ 10) (w : World) : Calls Tryd.prog 27 #[.string s] w fun e w' => e = .returned (.tuple #[.int .i64 0, .int .i64 3]) ∧ Below w.heap.size w w' := by
  have h2 : ((s.size : Int) != 10) = true := by simp; omega
  go_enter Tryd.func27, Tryd.ntmps27
  go_wp2
  go_ret2
  exact ⟨rfl, Below.refl _ _⟩
set_option maxHeartbeats 1000000 in
theorem rparse_dash (s : ByteArray) (h : s.size = 10) (w : World) (hd : s[4].toNat ≠ 45 ∨ s[7].toNat ≠ 45) : Calls Tryd.prog 27 #[.string s] w fun e w' => e = .returned (.tuple #[.int .i64 0, .int .i64 3]) ∧ Below w.heap.size w w' := by
  by_cases h4 : s[4].toNat = 45
  · have e4 : ((s[4].toNat : Int) != 45) = false := by simp [h4]
    have e7 : ((s[7].toNat : Int) != 45) = true := by simp; omega
    clear hd h4
    go_enter Tryd.func27, Tryd.ntmps27
    go_wp2
    go_ret2
    exact ⟨rfl, Below.refl _ _⟩
  · have e4 : ((s[4].toNat : Int) != 45) = true := by simp; omega
    clear hd h4
    go_enter Tryd.func27, Tryd.ntmps27
    go_wp2
    go_ret2
    exact ⟨rfl, Below.refl _ _⟩

set_option maxHeartbeats 1000000 in
set_option maxRecDepth 100000 in
theorem rparse_ten (s : ByteArray) (hs : s.size = 10) (w : World) (h4 : s[4].toNat = 45) (h7 : s[7].toNat = 45) (V E : Int) (hV : ∀ y m d : Nat, goOn 0 0 0 0 s.data.toList = some (y, m, d) → V = (if okB y m d = true then num y m d else 0) ∧ E = (if okB y m d = true then 0 else 15)) (hN : goOn 0 0 0 0 s.data.toList = none → V = 0 ∧ E = 3) :
    Calls Tryd.prog 27 #[.string s] w fun e w' => e = .returned (.tuple #[.int .i64 V, .int .i64 E]) ∧ Below w.heap.size w w' := by
  have e4 : ((s[4].toNat : Int) != 45) = false := by simp [h4]
  have e7 : ((s[7].toNat : Int) != 45) = false := by simp [h7]
  obtain ⟨R, hR⟩ : ∃ R, R = goOn 0 0 0 0 s.data.toList := ⟨_, rfl⟩
  rw [← hR] at hV hN
  have HR := Lib.hid hR
  have HV := Lib.hid hV
  have HN := Lib.hid hN
  clear hV hN hR h4 h7
  have hB := (Below.refl w.heap.size w).alloc (Nat.le_refl _) (.cells #[.int .i64 0, .int .i64 0, .int .i64 0] 59)
  have HT0 : Hid (Tri (w.alloc (.cells #[.int .i64 0, .int .i64 0, .int .i64 0] 59)) w.heap.size 0 0 0) := Lib.hid ⟨new3 w _ _ _ _, newf3 w _ _ _ _⟩
  have hg0 : w.heap.size < (w.alloc (.cells #[.int .i64 0, .int .i64 0, .int .i64 0] 59)).heap.size := by simp
  go_enter Tryd.func27, Tryd.ntmps27
  go_wp2
  have HG0 := HR
  obtain ⟨g, hgg⟩ : ∃ g, g = w.heap.size := ⟨_, rfl⟩
  have hwg : w.heap.size ≤ g := by omega
  rw [← hgg] at HT0 hg0
  simp only [← hgg]
  clear hgg
  generalize w.alloc (.cells #[.int .i64 0, .int .i64 0, .int .i64 0] 59) = W0 at HT0 hg0 hB ⊢
  go_loopw [5] (fun iv wr => ∃ k a b c : Nat, k ≤ 10 ∧ a < 10 ^ k ∧ b < 10 ^ k ∧ c < 10 ^ k ∧ iv = .int .i64 k ∧ Hid (goOn k a b c (s.data.toList.drop k) = R) ∧ Hid (Tri wr g a b c) ∧ Below w.heap.size w wr ∧ g < wr.heap.size) (fun iv _ => 10 - (RowKit.intOf iv).toNat)
  case atStart => exact ⟨0, 0, 0, 0, by omega, by simp, by simp, by simp, rfl, Lib.hid HG0.out.symm, HT0, hB, hg0⟩
  case round =>
    clear HT0 hB hg0 HG0
    obtain ⟨k, a, b, c, hk, ha, hb0, hc, rfl, HG, HT, hbw, hgr⟩ := hrel
    by_cases hlt : k < 10
    · have hks : k < s.size := by omega
      have hp : 10 ^ k ≤ 10 ^ 9 := Nat.pow_le_pow_right (by omega) (by omega)
      obtain ⟨x, hb⟩ : ∃ x, s[k]'hks = x := ⟨_, rfl⟩
      have hxs := x.toNat_lt
      obtain ⟨⟨c0, c1, c2⟩, f0, f1, f2⟩ := HT.out
      by_cases hpl : k = 4 ∨ k = 7
      · have HN2 : Hid (goOn (k + 1) a b c (s.data.toList.drop (k + 1)) = R) := Lib.hid (by rw [← HG.out, drop_at s k hks, go_skip _ _ _ _ _ _ hpl])
        have hp1 : 10 ^ k ≤ 10 ^ (k + 1) := Nat.pow_le_pow_right (by omega) (by omega)
        by_cases k4 : k = 4
        · have p4 : ((k : Int) == 4) = true := by simp; omega
          go_wp2
          go_roundw
          case rel => exact ⟨k + 1, a, b, c, by omega, by omega, by omega, by omega, by go_num, HN2, HT, hbw, hgr⟩
          case measure => simp [RowKit.intOf]; omega
        · have p4 : ((k : Int) == 4) = false := by simp; omega
          have p7 : ((k : Int) == 7) = true := by simp; omega
          go_wp2
          go_roundw
          case rel => exact ⟨k + 1, a, b, c, by omega, by omega, by omega, by omega, by go_num, HN2, HT, hbw, hgr⟩
          case measure => simp [RowKit.intOf]; omega
      · have p4 : ((k : Int) == 4) = false := by simp; omega
        have p7 : ((k : Int) == 7) = false := by simp; omega
        cases hdg : isDg x with
        | false =>
          have hnone : R = none := by
            rw [← HG.out, drop_at s k hks, hb, goOn, if_neg hpl, if_neg (by rw [hdg]; simp)]
          obtain ⟨rfl, rfl⟩ := HN.out hnone
          simp only [isDg, Bool.and_eq_false_iff, decide_eq_false_iff_not] at hdg
          clear HG HV HN HR hnone
          by_cases hlo : x.toNat < 48
          · have e1 : decide ((x.toNat : Int) < 48) = true := decide_eq_true (by omega)
            go_wp2
            go_ret2
            exact ⟨rfl, hbw⟩
          · have e1 : decide ((x.toNat : Int) < 48) = false := decide_eq_false (by omega)
            have e2 : decide ((57 : Int) < (x.toNat : Int)) = true := decide_eq_true (by omega)
            go_wp2
            go_ret2
            exact ⟨rfl, hbw⟩
        | true =>
          have hdd := hdg
          simp only [isDg, Bool.and_eq_true, decide_eq_true_eq] at hdd
          obtain ⟨x48, x57⟩ := hdd
          have e1 : decide ((x.toNat : Int) < 48) = false := decide_eq_false (by omega)
          have e2 : decide ((57 : Int) < (x.toNat : Int)) = false := decide_eq_false (by omega)
          by_cases r7 : 7 < k
          · obtain ⟨x2, hx2⟩ : ∃ x2, x2 = 10 * c + (x.toNat - 48) := ⟨_, rfl⟩
            have HN2 : Hid (goOn (k + 1) a b x2 (s.data.toList.drop (k + 1)) = R) := Lib.hid (by rw [← HG.out, drop_at s k hks, hb, go_d _ _ _ _ _ _ r7, if_pos hdg, hx2])
            have HT2 : Hid (Tri (wr.drew.setCell ⟨g, 2, none⟩ (.int .i64 (x2 : Int))) g a b x2) := Lib.hid (Tri.set2 (w := wr.drew) (a := a) (b := b) (c := c) HT.out x2)
            have hx3 : x2 < 10 ^ (k + 1) := by rw [Nat.pow_succ]; omega
            have ex : 10 * (c : Int) + ((x.toNat : Int) - 48) = (x2 : Int) := by omega
            have hbe : Below w.heap.size w (wr.drew.setCell ⟨g, 2, none⟩ (.int .i64 (x2 : Int))) := hbw.drew.setCell hwg _
            have hp1 : 10 ^ k ≤ 10 ^ (k + 1) := Nat.pow_le_pow_right (by omega) (by omega)
            have d0 : wr.drew.cell? ⟨g, 2, none⟩ = some (.int .i64 (c : Int)) := c2
            have d1 : wr.drew.frozen? ⟨g, 2, none⟩ = false := f2
            have hva : c < 1000000000 := by omega
            have r4 : 4 < k := by omega
            clear HG hx2 HT hdg c0 c1 c2 f0 f1 f2 HV HN HR hpl
            go_upto_region 15 with fail
            refine wp_region_still_tail 12 (by kernel_rfl) (by kernel_rfl) ?_
            change wpStill _ _ wr.drew (fun a' => wpList _ _ _ _ a' wr.drew) _ _
            generalize wr.drew = W at HT2 hbe d0 d1 ⊢
            simp only [List.take_succ_cons, List.take_zero, List.drop_succ_cons, List.drop_zero]
            iterate 12 still_step
            refine wpStill_nil ?_
            go_wp2
            refine ⟨⟨k + 1, a, b, x2, by omega, by omega, by omega, by omega, by go_num, HN2, HT2, hbe, World.block_lt_of_cell? _ _ HT2.out.1.1⟩, by simp [RowKit.intOf]; omega⟩
          · by_cases r4 : 4 < k
            · obtain ⟨x2, hx2⟩ : ∃ x2, x2 = 10 * b + (x.toNat - 48) := ⟨_, rfl⟩
              have HN2 : Hid (goOn (k + 1) a x2 c (s.data.toList.drop (k + 1)) = R) := Lib.hid (by rw [← HG.out, drop_at s k hks, hb, go_m _ _ _ _ _ _ r4 (by omega), if_pos hdg, hx2])
              have HT2 : Hid (Tri (wr.drew.setCell ⟨g, 1, none⟩ (.int .i64 (x2 : Int))) g a x2 c) := Lib.hid (Tri.set1 (w := wr.drew) (a := a) (b := b) (c := c) HT.out x2)
              have hx3 : x2 < 10 ^ (k + 1) := by rw [Nat.pow_succ]; omega
              have ex : 10 * (b : Int) + ((x.toNat : Int) - 48) = (x2 : Int) := by omega
              have hbe : Below w.heap.size w (wr.drew.setCell ⟨g, 1, none⟩ (.int .i64 (x2 : Int))) := hbw.drew.setCell hwg _
              have hp1 : 10 ^ k ≤ 10 ^ (k + 1) := Nat.pow_le_pow_right (by omega) (by omega)
              have d0 : wr.drew.cell? ⟨g, 1, none⟩ = some (.int .i64 (b : Int)) := c1
              have d1 : wr.drew.frozen? ⟨g, 1, none⟩ = false := f1
              have hva : b < 1000000000 := by omega
              skip
              clear HG hx2 HT hdg c0 c1 c2 f0 f1 f2 HV HN HR hpl
              go_upto_region 15 with fail
              refine wp_region_still_tail 12 (by kernel_rfl) (by kernel_rfl) ?_
              change wpStill _ _ wr.drew (fun a' => wpList _ _ _ _ a' wr.drew) _ _
              generalize wr.drew = W at HT2 hbe d0 d1 ⊢
              simp only [List.take_succ_cons, List.take_zero, List.drop_succ_cons, List.drop_zero]
              iterate 12 still_step
              refine wpStill_nil ?_
              go_wp2
              refine ⟨⟨k + 1, a, x2, c, by omega, by omega, by omega, by omega, by go_num, HN2, HT2, hbe, World.block_lt_of_cell? _ _ HT2.out.1.1⟩, by simp [RowKit.intOf]; omega⟩
            · obtain ⟨x2, hx2⟩ : ∃ x2, x2 = 10 * a + (x.toNat - 48) := ⟨_, rfl⟩
              have HN2 : Hid (goOn (k + 1) x2 b c (s.data.toList.drop (k + 1)) = R) := Lib.hid (by rw [← HG.out, drop_at s k hks, hb, go_y _ _ _ _ _ _ (by omega), if_pos hdg, hx2])
              have HT2 : Hid (Tri (wr.drew.setCell ⟨g, 0, none⟩ (.int .i64 (x2 : Int))) g x2 b c) := Lib.hid (Tri.set0 (w := wr.drew) (a := a) (b := b) (c := c) HT.out x2)
              have hx3 : x2 < 10 ^ (k + 1) := by rw [Nat.pow_succ]; omega
              have ex : 10 * (a : Int) + ((x.toNat : Int) - 48) = (x2 : Int) := by omega
              have hbe : Below w.heap.size w (wr.drew.setCell ⟨g, 0, none⟩ (.int .i64 (x2 : Int))) := hbw.drew.setCell hwg _
              have hp1 : 10 ^ k ≤ 10 ^ (k + 1) := Nat.pow_le_pow_right (by omega) (by omega)
              have d0 : wr.drew.cell? ⟨g, 0, none⟩ = some (.int .i64 (a : Int)) := c0
              have d1 : wr.drew.frozen? ⟨g, 0, none⟩ = false := f0
              have hva : a < 1000000000 := by omega
              skip
              clear HG hx2 HT hdg c0 c1 c2 f0 f1 f2 HV HN HR hpl
              go_upto_region 15 with fail
              refine wp_region_still_tail 12 (by kernel_rfl) (by kernel_rfl) ?_
              change wpStill _ _ wr.drew (fun a' => wpList _ _ _ _ a' wr.drew) _ _
              generalize wr.drew = W at HT2 hbe d0 d1 ⊢
              simp only [List.take_succ_cons, List.take_zero, List.drop_succ_cons, List.drop_zero]
              iterate 12 still_step
              refine wpStill_nil ?_
              go_wp2
              refine ⟨⟨k + 1, x2, b, c, by omega, by omega, by omega, by omega, by go_num, HN2, HT2, hbe, World.block_lt_of_cell? _ _ HT2.out.1.1⟩, by simp [RowKit.intOf]; omega⟩
    · have hend : R = some (a, b, c) := by rw [← HG.out, drop_end s k (by omega)]; rfl
      obtain ⟨hVe, hEe⟩ := HV.out a b c hend
      obtain ⟨⟨c0, c1, c2⟩, f0, f1, f2⟩ := HT.out
      clear HG HV HN HR hend HT
      cases hok : okB a b c with
      | true =>
        rw [hok] at hVe hEe
        simp only [if_true] at hVe hEe
        subst hEe
        have HO := rof_yes a b c hok
        rw [← hVe] at HO
        have HO := Lib.hid HO
        clear hVe hok
        go_wp2_with fail
        refine (HO.out _).mono ?_
        rintro e w3 ⟨rfl, hb3⟩
        go_wp2
        go_ret2
        exact ⟨rfl, hbw.trans (hb3.mono hbw.size)⟩
      | false =>
        rw [hok] at hVe hEe
        simp only [Bool.false_eq_true, if_false] at hVe hEe
        subst hEe hVe
        have HO := Lib.hid (rof_no a b c hok)
        clear hok
        go_wp2_with fail
        refine (HO.out _).mono ?_
        rintro e w3 ⟨rfl, hb3⟩
        go_wp2
        go_ret2
        exact ⟨rfl, hbw.trans (hb3.mono hbw.size)⟩

theorem rparse_any (s : ByteArray) (w : World) : Calls Tryd.prog 27 #[.string s] w fun e w' => e = .returned (.tuple #[.int .i64 (parV s.data.toList), .int .i64 (parE s.data.toList)]) ∧ Below w.heap.size w w' := by
  by_cases h : s.size = 10
  · have hl : s.data.toList.length = 10 := by rw [Array.length_toList]; exact h
    have g4 : s.data.toList[4]? = some s[4] := by rw [List.getElem?_eq_getElem (by omega)]; rfl
    have g7 : s.data.toList[7]? = some s[7] := by rw [List.getElem?_eq_getElem (by omega)]; rfl
    by_cases h4 : s[4].toNat = 45 ∧ s[7].toNat = 45
    · have e4 : s[4] = 45 := UInt8.toNat_inj.1 h4.1
      have e7 : s[7] = 45 := UInt8.toNat_inj.1 h4.2
      have hall := go_all hl (by rw [g4, e4]) (by rw [g7, e7])
      refine rparse_ten s h w h4.1 h4.2 _ _ (fun y m d hy => ?_) (fun hn => ?_)
      · rw [hall] at hy
        cases hd : isDateB s.data.toList with
        | false => rw [hd] at hy; simp at hy
        | true =>
          rw [hd, if_pos rfl] at hy
          injection hy with hy
          injection hy with h1 h2
          injection h2 with h2 h3
          subst h1 h2 h3
          simp [parV, parE, hd]
      · rw [hall] at hn
        cases hd : isDateB s.data.toList with
        | true => rw [hd, if_pos rfl] at hn; cases hn
        | false => simp [parV, parE, hd]
    · have hnd : isDateB s.data.toList = false := by
        obtain ⟨a, b, c, d, e, f, g, i, j, k, hL⟩ := ten_list hl
        rw [hL] at g4 g7 ⊢
        simp only [List.getElem?_cons_succ, List.getElem?_cons_zero, Option.some.injEq] at g4 g7
        rw [← g4, ← g7] at h4
        simp [isDateB, fitsFrom, fitB]
        grind
      have := rparse_dash s h w (by omega)
      simpa [parV, parE, hnd] using this
  · have hnd : isDateB s.data.toList = false := by
      unfold isDateB; rw [decide_eq_false (by rw [Array.length_toList]; exact h)]; rfl
    have := rparse_short s h w
    simpa [parV, parE, hnd] using this

end Go.Proofs.YtajhabnepodpbaaDoor
