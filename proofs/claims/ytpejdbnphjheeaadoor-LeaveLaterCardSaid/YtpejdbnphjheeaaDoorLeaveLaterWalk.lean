/-
  What is proved: the walk of the statement LeaveLater: the call returns true. Conditions: the tables read as their texts lay them.
-/
import Derived.Test.YtpejdbnphjheeaaDoorLvU
namespace Go.Proofs.YtpejdbnphjheeaaDoor
open Go Go.RowKit Go.Proofs Go.Proofs.YtpejdbnphjheeaaDoor.Cv
set_option linter.unusedVariables false

theorem sumTo_bd {g : Nat → Int} {n : Nat} (h : ∀ j, j < n → 0 ≤ g j ∧ g j ≤ 1000000) : ∀ k, k ≤ n → 0 ≤ sumTo g k ∧ sumTo g k ≤ 1000000 * (k : Int)
  | 0, _ => by simp [sumTo]
  | k + 1, hk => by
    have := sumTo_bd h k (by omega)
    have := h k (by omega)
    simp only [sumTo]; omega
/-- How many moves lie up to a day. -/
theorem upto_is {u : Int} {n : Nat} {D : Nat → Int} (hm : ∀ i j, i ≤ j → j < n → D i ≤ D j) : ∃ k, k ≤ n ∧ (∀ j, j < k → D j ≤ u) ∧ ∀ j, k ≤ j → j < n → u < D j :=
  ⟨ahead D (u + 1) n, ahead_le _ _, fun j hj => by have := ahead_lt n D j hj (E := u + 1); omega, fun j h1 h2 => by have := ahead_all (E := u + 1) hm h1 h2; omega⟩

set_option maxHeartbeats 8000000 in
set_option maxRecDepth 100000 in
theorem walkLeaveLater (py pc px u : Int) (a : Option Addr) (n c : Nat) (f : Nat → Mv) (w : World) (hP : in64 py ∧ in64 pc ∧ in64 px) (hu : (Lit.int .i64 u).wf = true) (hM : MvArg w a n c f) (hT : Tab4 w) :
    Calls Tryd.prog 5 #[.agg #[.int .i64 py, .int .i64 pc, .int .i64 px], .int .i64 u, .slice a n c] w fun e w' => e = .returned (.bool true) ∧ Below w.heap.size w w' := by
  have hmv := hM.mv
  obtain ⟨-, hcp, -, -⟩ := hM
  obtain ⟨W1, hW1⟩ : ∃ W1, W1 = w.alloc (.cells #[.int .i64 py, .int .i64 pc, .int .i64 px] 23) := ⟨_, rfl⟩
  have hb0 : Below w.heap.size w W1 := by rw [hW1]; exact (Below.refl w.heap.size w).alloc (Nat.le_refl _) _
  have hp : W1.heap[w.heap.size]? = some (.cells #[.int .i64 py, .int .i64 pc, .int .i64 px] 23 (0, 0)) := by rw [hW1]; exact heap_new _ _
  have T1 := Lib.hid (hT.stay hb0)
  have HA := Lib.hid awake_any
  have mixed : Tryd.prog.follows .mixedOrders = true := by kernel_rfl
  obtain ⟨D, hD⟩ : ∃ D : Nat → Int, D = fun j => (f j).1 := ⟨_, rfl⟩
  obtain ⟨G, hG⟩ : ∃ D : Nat → Int, D = fun j => (f j).2.1 := ⟨_, rfl⟩
  obtain ⟨T, hT'⟩ : ∃ D : Nat → Int, D = fun j => (f j).2.2 := ⟨_, rfl⟩
  rw [← hD, ← hG, ← hT'] at hmv
  clear hD hG hT' hT hP hu
  by_cases h100 : 100 < n
  · have i1 : (100 : Int) < (n : Int) := by omega
    go_enter Tryd.func5, Tryd.ntmps5
    go_wp2_with fail
    rw [← hW1]
    refine (HA.out _ T1.out).mono ?_
    rintro e w2 ⟨rfl, hb⟩
    go_wp2
    go_ret
    exact ⟨rfl, hb0.trans (hb.mono hb0.size)⟩
  have i1 : ¬ (100 : Int) < (n : Int) := by omega
  have HF := Lib.hid (fold_any py pc px u a n c D G T W1 (by omega) hcp (hmv.below hb0 (Nat.le_refl _)) T1.out.1)
  rw [hW1] at HF
  go_enter Tryd.func5, Tryd.ntmps5
  go_wp2_with fail
  refine (HF.out).mono ?_
  rintro e w2 ⟨hb2, hr⟩
  rw [← hW1] at hb2
  clear hW1 HF
  have T2 := T1.out.stay hb2
  have hp2 : w2.heap[w.heap.size]? = some (.cells #[.int .i64 py, .int .i64 pc, .int .i64 px] 23 (0, 0)) := (hb2.block _ (lt_of_at hp)).trans hp
  have hb3 := hb0.trans (hb2.mono hb0.size)
  rcases hr with ⟨hv, rfl⟩ | ⟨hv, Y, hY, rfl⟩
  · obtain ⟨V, hV⟩ : ∃ V, checkV py pc px u n D G T = V := ⟨_, rfl⟩
    rw [hV] at hv ⊢
    have dV : (V != 0) = true := by simp [hv]
    have T3 := Lib.hid (T2.stay ((Below.refl w2.heap.size w2).alloc (Nat.le_refl _) (.cells #[.int .i64 0, .int .i64 0, .int .i64 0, .int .i64 0] 28)))
    clear hV hp hp2
    go_wp2_with fail
    refine (HA.out _ T3.out).mono ?_
    rintro e w4 ⟨rfl, hb⟩
    go_wp2
    go_ret
    exact ⟨rfl, (hb3.alloc hb3.size _).trans (hb.mono (by have := hb3.size; simp; omega))⟩
  · obtain ⟨hz1, hz2, hz3, hz4, hz5⟩ := check_zero hv
    obtain ⟨k, hk, hk1, hk2⟩ := upto_is (u := u) hz5
    have HG := Lib.hid (years_sum_to (f := Bal.gr) (π := fun e => match e with | .mv _ g _ => g | _ => 0) (g := G) hv hY (fun b e => by unfold stepE; split <;> cases e <;> simp [Ev.act, Bal.mv, Bal.exp, Bal.turn]) rfl (fun _ => rfl) (fun _ => rfl) (fun _ => rfl) hk hk1 hk2)
    have HTA := Lib.hid (years_sum_to (f := Bal.ta) (π := fun e => match e with | .mv _ _ t => t | _ => 0) (g := T) hv hY (fun b e => by unfold stepE; split <;> cases e <;> simp [Ev.act, Bal.mv, Bal.exp, Bal.turn]) rfl (fun _ => rfl) (fun _ => rfl) (fun _ => rfl) hk hk1 hk2)
    have hsame := years_to (Y0 := py) (Ca := pc) (Ex := px) (u := u) (mvL_to (n := n) (G := G) (T := T) hk hk1 hk2) (Y + 1 - py).toNat
    have hvk := check_less hk hv
    obtain ⟨B, hB⟩ : ∃ B, B = yearsE py pc px u (mvL n D G T) (Y + 1 - py).toNat := ⟨_, rfl⟩
    rw [← hB] at HG HTA hsame ⊢
    clear hB
    have hbG := fun m hm => sumTo_bd (g := G) (n := n) (fun j hj => by have := (hz4 j hj).2.2; simp only [Ev.ok] at this; omega) m hm
    have hbT := fun m hm => sumTo_bd (g := T) (n := n) (fun j hj => by have := (hz4 j hj).2.2; simp only [Ev.ok] at this; omega) m hm
    have HZ := Lib.hid hz4
    have HBG := Lib.hid hbG
    have HBT := Lib.hid hbT
    have HK1 := Lib.hid hk1
    have HK2 := Lib.hid hk2
    obtain ⟨W3, hW3⟩ : ∃ W3, W3 = w2.alloc (.cells #[.int .i64 B.gr, .int .i64 B.ta, .int .i64 B.lo, .int .i64 (B.fr + B.ca)] 28) := ⟨_, rfl⟩
    have hb4 : Below w2.heap.size w2 W3 := by rw [hW3]; exact (Below.refl _ _).alloc (Nat.le_refl _) _
    have hA3 : AccAt W3 w2.heap.size B.gr B.ta B.lo (B.fr + B.ca) := by rw [hW3]; exact AccAt.new _ _ _ _ _
    have hp3 : W3.heap[w.heap.size]? = some (.cells #[.int .i64 py, .int .i64 pc, .int .i64 px] 23 (0, 0)) := (hb4.block _ (lt_of_at hp2)).trans hp2
    have T3 := Lib.hid (T2.stay hb4)
    have hb5 := hb3.trans (hb4.mono hb3.size)
    have HM3 := Lib.hid (hmv.below hb5 (Nat.le_refl _))
    have HF2 := Lib.hid (fun W (hW : Below W3.heap.size W3 W) => fold_is (p := a) (cp := c) hvk hY W (by omega) (by omega) (by
      rcases hmv.below (hb5.trans (hW.mono hb5.size)) (Nat.le_refl _) with h | ⟨b, o, h, hc⟩
      · exact .inl (by omega)
      · exact .inr ⟨b, o, h, fun j hj => hc j (by omega)⟩) (T3.out.stay hW).1)
    rw [← hsame] at HF2
    have HB5 := Lib.hid hb5
    have HA3 := Lib.hid hA3
    have HP3 := Lib.hid hp3
    clear hz1 hz2 hz3 hz4 hz5 hk1 hk2 hbG hbT hsame hvk hv hY hb0 hb2 hb3 hb4 hb5 hp hp2 hp3 hA3 T1 T2 hmv
    unfold accV at HF2 ⊢
    go_wp2
    rw [← hW3]
    clear hW3
    go_loopw [9, 10, 11] (fun nv gv tv wr => ∃ m : Nat, m ≤ k ∧ nv = .int .i64 m ∧ gv = .int .i64 (sumTo G m) ∧ tv = .int .i64 (sumTo T m) ∧ Below W3.heap.size W3 wr) (fun nv _ _ _ => k - (RowKit.intOf nv).toNat)
    case atStart => exact ⟨0, by omega, rfl, rfl, rfl, Below.refl _ _⟩
    case round =>
      obtain ⟨m, hm, rfl, rfl, rfl, hb⟩ := hrel
      by_cases hmn : m < n
      · rcases HM3.out with h | ⟨bb, o, rfl, hc⟩
        · omega
        obtain ⟨d0, d1, d2⟩ := hc m hmn
        have e0 := stay hb d0
        have e1 := stay hb d1
        have e2 := stay hb d2
        have i2 : (m : Int) < (n : Int) := by omega
        have i3 : decide ((m : Int) < (n : Int)) = true := decide_eq_true i2
        clear d0 d1 d2 hc
        by_cases hlt : m < k
        · have hd := HK1.out m hlt
          have hok := (HZ.out m hmn).2.2
          simp only [Ev.ok] at hok
          have hg := HBG.out m (by omega)
          have ht := HBT.out m (by omega)
          have HSG := Lib.hid (show sumTo G (m + 1) = sumTo G m + G m from rfl)
          have HST := Lib.hid (show sumTo T (m + 1) = sumTo T m + T m from rfl)
          generalize sumTo G m = sg at HSG hg ⊢
          generalize sumTo T m = st at HST ht ⊢
          generalize D m = d at e0 hd hok
          generalize G m = gm at e1 HSG hok
          generalize T m = tm at e2 HST hok
          have dd : decide (d ≤ u) = true := decide_eq_true hd
          have s1 : IntKind.i64.wrap (sg + gm) = sg + gm := IntWalk.i64_in _ (by omega)
          have s2 : IntKind.i64.wrap (st + tm) = st + tm := IntWalk.i64_in _ (by omega)
          go_wp2
          go_quiet (fail)
          go_wp2
          exact ⟨⟨m + 1, by omega, by go_num, by rw [HSG.out], by rw [HST.out], ⟨hb.os, hb.tape, hb.output, hb.size, hb.block⟩⟩, by simp [RowKit.intOf]; omega⟩
        · obtain rfl : m = k := by omega
          have hd := HK2.out m (Nat.le_refl _) hmn
          generalize D m = d at e0 hd
          have dd : decide (d ≤ u) = false := decide_eq_false (by omega)
          clear e1 e2
          rw [← HG.out, ← HTA.out]
          have hp4 := (hb.block _ (lt_of_at HP3.out)).trans HP3.out
          have p0 : wr.cell? ⟨w.heap.size, 0, none⟩ = some (.int .i64 py) := cell_of hp4 0 rfl
          have p1 : wr.cell? ⟨w.heap.size, 1, none⟩ = some (.int .i64 pc) := cell_of hp4 1 rfl
          have p2 : wr.cell? ⟨w.heap.size, 2, none⟩ = some (.int .i64 px) := cell_of hp4 2 rfl
          have hpl : w.heap.size < wr.heap.size := lt_of_at hp4
          have i5 : (m : Int) ≤ (c : Int) := by omega
          have i6 : (0 : Int) ≤ (m : Int) := by omega
          have HA4 := Lib.hid (HA3.out.below hb)
          have HF3 := Lib.hid (fun W (hW : Below wr.heap.size wr W) => HF2.out W (hb.trans (hW.mono hb.size)))
          have HBX := Lib.hid (HB5.out.trans (hb.mono HB5.out.size))
          have HTX := Lib.hid (T3.out.stay hb)
          clear hp4 hb HF2 T3 HB5 HM3 HZ HBG HBT
          go_upto_region 10 with fail
          go_cut [12, 13] (fun s12 s13 wx => ∃ g, s12 = .pointer (some ⟨g, 0, none⟩) ∧ s13 = .int .i64 0 ∧ Hid (AccAt wx g B.gr B.ta B.lo (B.fr + B.ca)) ∧ Hid (Below wr.heap.size wr wx))
          case first =>
            have KP : Hid (∀ w', Below wr.heap.size wr w' → (w'.cell? ⟨w.heap.size, 0, none⟩ = some (.int .i64 py) ∧ w'.cell? ⟨w.heap.size, 1, none⟩ = some (.int .i64 pc) ∧ w'.cell? ⟨w.heap.size, 2, none⟩ = some (.int .i64 px)) ∧ Below wr.heap.size wr w') := Lib.hid (fun w' h => ⟨⟨stay h p0, stay h p1, stay h p2⟩, h⟩)
            clear p0 p1 p2
            go_region_held3 (fun w' => (w'.cell? ⟨w.heap.size, 0, none⟩ = some (.int .i64 py) ∧ w'.cell? ⟨w.heap.size, 1, none⟩ = some (.int .i64 pc) ∧ w'.cell? ⟨w.heap.size, 2, none⟩ = some (.int .i64 px)) ∧ Below wr.heap.size wr w') (first | with_reducible exact KP.out _ (set4_below hky (Nat.le_refl _) _ _ _ _) | with_reducible exact KP.out _ kb_drew | with_reducible exact KP.out _ (by assumption) | with_reducible exact KP.out _ (Below.alloc (by assumption) (by assumption) _) | with_reducible exact KP.out _ (Below.alloc kb_drew (Below.size kb_drew) _) | with_reducible exact KP.out _ (Below.drew (Below.alloc (Below.refl _ _) (Nat.le_refl _) _)) | with_reducible exact KP.out _ (set4_below (Below.alloc (by assumption) (by assumption) _) (by assumption) _ _ _ _)) (first | (go_at_call 10; refine (HF3.out _ (And.right (by assumption))).mono ?_; rintro e wy ⟨rfl, hby⟩; have hky : Below wr.heap.size wr wy := kb_call hby (by assumption); have hgy := hky.size; first | (have hry : AccAt wy wr.heap.size 0 0 0 0 := (acc_drew wr).below hby) | (have hry := acc_new0 wy)) | (obtain ⟨⟨a0, a1, a2, a3⟩, ⟨b0, b1, b2, b3⟩⟩ := hry.all; simp (config := { decide := true }) only [a0, a1, a2, a3, b0, b1, b2, b3, Result.andThen, World.frozen?_setCell, set_off, ne_eq, Bool.false_eq_true, reduceIte]; clear a0 a1 a2 a3 b0 b1 b2 b3; go_simp))
            all_goals (go_wp2; go_meet; first | with_reducible exact ⟨_, rfl, rfl, Lib.hid (AccAt.new _ _ _ _ _), Lib.hid (hky.alloc hgy _)⟩ | with_reducible exact ⟨_, rfl, rfl, Lib.hid hry.put, Lib.hid (set4_below hky (Nat.le_refl _) _ _ _ _)⟩)
          case rest =>
            obtain ⟨g, rfl, rfl, HAG, HBG⟩ := hcut
            obtain ⟨x0, x1, x2, x3⟩ := (HA4.out.below HBG.out).cells
            obtain ⟨y0, y1, y2, y3⟩ := HAG.out.cells
            have HT5 := Lib.hid (HTX.out.stay HBG.out)
            have HB6 := Lib.hid (HBX.out.trans (HBG.out.mono HBX.out.size))
            clear HAG HBG HA4 HA3 HP3 HF3 HTX HBX
            generalize B.gr = b0 at *
            generalize B.ta = b1 at *
            generalize B.lo = b2 at *
            generalize B.fr + B.ca = b3 at *
            go_wp2_with fail
            refine (HA.out _ HT5.out).mono ?_
            rintro e w9 ⟨rfl, hb9⟩
            go_wp2
            go_ret
            exact ⟨rfl, HB6.out.trans (hb9.mono HB6.out.size)⟩
      · obtain rfl : m = n := by omega
        obtain rfl : m = k := by omega
        rw [← HG.out, ← HTA.out]
        have hp4 := (hb.block _ (lt_of_at HP3.out)).trans HP3.out
        have p0 : wr.cell? ⟨w.heap.size, 0, none⟩ = some (.int .i64 py) := cell_of hp4 0 rfl
        have p1 : wr.cell? ⟨w.heap.size, 1, none⟩ = some (.int .i64 pc) := cell_of hp4 1 rfl
        have p2 : wr.cell? ⟨w.heap.size, 2, none⟩ = some (.int .i64 px) := cell_of hp4 2 rfl
        have hpl : w.heap.size < wr.heap.size := lt_of_at hp4
        have i5 : (m : Int) ≤ (c : Int) := by omega
        have i6 : (0 : Int) ≤ (m : Int) := by omega
        have HA4 := Lib.hid (HA3.out.below hb)
        have HF3 := Lib.hid (fun W (hW : Below wr.heap.size wr W) => HF2.out W (hb.trans (hW.mono hb.size)))
        have HBX := Lib.hid (HB5.out.trans (hb.mono HB5.out.size))
        have HTX := Lib.hid (T3.out.stay hb)
        clear hp4 hb HF2 T3 HB5 HM3 HZ HBG HBT
        go_upto_region 10 with fail
        go_cut [12, 13] (fun s12 s13 wx => ∃ g, s12 = .pointer (some ⟨g, 0, none⟩) ∧ s13 = .int .i64 0 ∧ Hid (AccAt wx g B.gr B.ta B.lo (B.fr + B.ca)) ∧ Hid (Below wr.heap.size wr wx))
        case first =>
          have KP : Hid (∀ w', Below wr.heap.size wr w' → (w'.cell? ⟨w.heap.size, 0, none⟩ = some (.int .i64 py) ∧ w'.cell? ⟨w.heap.size, 1, none⟩ = some (.int .i64 pc) ∧ w'.cell? ⟨w.heap.size, 2, none⟩ = some (.int .i64 px)) ∧ Below wr.heap.size wr w') := Lib.hid (fun w' h => ⟨⟨stay h p0, stay h p1, stay h p2⟩, h⟩)
          clear p0 p1 p2
          go_region_held3 (fun w' => (w'.cell? ⟨w.heap.size, 0, none⟩ = some (.int .i64 py) ∧ w'.cell? ⟨w.heap.size, 1, none⟩ = some (.int .i64 pc) ∧ w'.cell? ⟨w.heap.size, 2, none⟩ = some (.int .i64 px)) ∧ Below wr.heap.size wr w') (first | with_reducible exact KP.out _ (set4_below hky (Nat.le_refl _) _ _ _ _) | with_reducible exact KP.out _ kb_drew | with_reducible exact KP.out _ (by assumption) | with_reducible exact KP.out _ (Below.alloc (by assumption) (by assumption) _) | with_reducible exact KP.out _ (Below.alloc kb_drew (Below.size kb_drew) _) | with_reducible exact KP.out _ (Below.drew (Below.alloc (Below.refl _ _) (Nat.le_refl _) _)) | with_reducible exact KP.out _ (set4_below (Below.alloc (by assumption) (by assumption) _) (by assumption) _ _ _ _)) (first | (go_at_call 10; refine (HF3.out _ (And.right (by assumption))).mono ?_; rintro e wy ⟨rfl, hby⟩; have hky : Below wr.heap.size wr wy := kb_call hby (by assumption); have hgy := hky.size; first | (have hry : AccAt wy wr.heap.size 0 0 0 0 := (acc_drew wr).below hby) | (have hry := acc_new0 wy)) | (obtain ⟨⟨a0, a1, a2, a3⟩, ⟨b0, b1, b2, b3⟩⟩ := hry.all; simp (config := { decide := true }) only [a0, a1, a2, a3, b0, b1, b2, b3, Result.andThen, World.frozen?_setCell, set_off, ne_eq, Bool.false_eq_true, reduceIte]; clear a0 a1 a2 a3 b0 b1 b2 b3; go_simp))
          all_goals (go_wp2; go_meet; first | with_reducible exact ⟨_, rfl, rfl, Lib.hid (AccAt.new _ _ _ _ _), Lib.hid (hky.alloc hgy _)⟩ | with_reducible exact ⟨_, rfl, rfl, Lib.hid hry.put, Lib.hid (set4_below hky (Nat.le_refl _) _ _ _ _)⟩)
        case rest =>
          obtain ⟨g, rfl, rfl, HAG, HBG⟩ := hcut
          obtain ⟨x0, x1, x2, x3⟩ := (HA4.out.below HBG.out).cells
          obtain ⟨y0, y1, y2, y3⟩ := HAG.out.cells
          have HT5 := Lib.hid (HTX.out.stay HBG.out)
          have HB6 := Lib.hid (HBX.out.trans (HBG.out.mono HBX.out.size))
          clear HAG HBG HA4 HA3 HP3 HF3 HTX HBX
          generalize B.gr = b0 at *
          generalize B.ta = b1 at *
          generalize B.lo = b2 at *
          generalize B.fr + B.ca = b3 at *
          go_wp2_with fail
          refine (HA.out _ HT5.out).mono ?_
          rintro e w9 ⟨rfl, hb9⟩
          go_wp2
          go_ret
          exact ⟨rfl, HB6.out.trans (hb9.mono HB6.out.size)⟩

end Go.Proofs.YtpejdbnphjheeaaDoor
