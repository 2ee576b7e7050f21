/-
  What is proved: the contract of the document's own Take. Conditions: what is handed in lies in memory as the contract says.
-/
import Derived.Test.YtaeldoipflcknaaBfG
namespace Go.Proofs.Ytaeldoipflcknaa
open Go Go.RowKit Go.Lib Go.Proofs
open Ra (fitsB fitsB_iff)
set_option linter.unusedVariables false

/-- Rows of two kinds of elements have no block in common. -/
theorem own_apart {w : World} {B B' : Nat} {E E' : TypeId} {v v' : Value} {L L' : Ti} (h : OwnI w B E v L) (h' : OwnI w B' E' v' L') (hE : E ≠ E') : v'.ownBlock = none ∨ v'.ownBlock ≠ v.ownBlock := by
  rcases h'.2 with ⟨e, -⟩ | ⟨g, cap, cur, e1, e2, e3, -⟩
  · left; rw [e]; rfl
  · right
    subst e1
    intro e
    rcases h.2 with ⟨f, -⟩ | ⟨g', cap', cur', f1, f2, f3, -⟩
    · rw [f] at e; simp [Value.ownBlock] at e
    · subst f1
      simp only [Value.ownBlock, Option.some.injEq] at e
      subst e
      rw [e3] at f3
      injection f3 with f3
      injection f3 with _ f4
      exact hE f4.symm
theorem hasI_mem {L : Ti} {k : Nat} (h : k < L.length) : hasI L (L.getD k d0).1 = true := by
  unfold hasI
  exact List.any_eq_true.2 ⟨_, getD_mem L d0 h, by simp⟩
theorem uq_at {L : Ti} (hu : UqI L) {k : Nat} (h : k < L.length) : hasI (L.take k) (L.getD k d0).1 = false ∧ atI L (L.getD k d0).1 = (L.getD k d0).2 := by
  have h1 : hasI (L.take k) (L.getD k d0).1 = false := by
    have hu2 : UqI (L.take (k + 1)) := List.Pairwise.sublist (List.take_sublist _ _) hu
    rw [take_at L d0 h] at hu2
    rw [Bool.eq_false_iff]
    intro hh
    obtain ⟨q, hq, e⟩ := List.any_eq_true.1 hh
    exact (List.pairwise_append.1 hu2).2.2 q hq _ (List.mem_singleton.2 rfl) (by simpa using e)
  exact ⟨h1, at_hit h h1 rfl⟩

theorem it_ways (c so : Int) : ((fit0 c && fit0 so) = true ∧ decide (c < 0) = false ∧ decide (1125899906842624 < c) = false ∧ decide (so < 0) = false ∧ decide (1125899906842624 < so) = false) ∨ ((fit0 c && fit0 so) = false ∧ decide (c < 0) = true) ∨ ((fit0 c && fit0 so) = false ∧ decide (c < 0) = false ∧ decide (1125899906842624 < c) = true) ∨
    ((fit0 c && fit0 so) = false ∧ decide (c < 0) = false ∧ decide (1125899906842624 < c) = false ∧ decide (so < 0) = true) ∨ ((fit0 c && fit0 so) = false ∧ decide (c < 0) = false ∧ decide (1125899906842624 < c) = false ∧ decide (so < 0) = false ∧ decide (1125899906842624 < so) = true) := by
  simp only [fit0, Bool.and_eq_true, Bool.and_eq_false_iff, decide_eq_true_eq, decide_eq_false_iff_not]
  omega
def RtInv (w : World) (g : Int) (was : Ti) (L : List Lm) (W : Ti) (k : Nat) (v hv : Value) (left : Int) (wr : World) : Prop :=
  (takeF g was L (W.take k)).1 = 0 ∧ left = (takeF g was L (W.take k)).2.1 ∧ OwnI wr w.heap.size 43 v (takeF g was L (W.take k)).2.2.2 ∧ OwnI wr w.heap.size 60 hv (takeF g was L (W.take k)).2.2.1 ∧ Below w.heap.size w wr ∧
  (takeF g was L (W.take k)).2.2.2.length ≤ k ∧ (takeF g was L (W.take k)).2.2.1.length ≤ k ∧ -1125899906842624 ≤ left
def RtPost (g : Int) (was : Ti) (W : Ti) (L : List Lm) (w : World) (e : Ending) (w' : World) : Prop :=
  ((takeE g was W L ≠ 0 ∧ e = .returned (.tuple #[.slice none 0 0, .slice none 0 0, .int .i64 (takeE g was W L)])) ∨ (takeE g was W L = 0 ∧ ∃ v q c, e = .returned (.tuple #[v, .slice q (thenV was (takeF g was L W).2.2.1).length c, .int .i64 0]) ∧ OwnI w' w.heap.size 43 v (takeF g was L W).2.2.2 ∧ ItLs w' q (thenV was (takeF g was L W).2.2.1))) ∧ Below w.heap.size w w'
theorem cap_at {g so now : Int} {s : ByteArray} {L : List Lm} {j : Nat} (h : j < L.length) (c : Int) : capV g so now (L.take (j + 1)) s c = capS g so now s (capV g so now (L.take j) s c) (L.getD j dL) := by
  unfold capV
  rw [fold_at _ _ L dL h]
theorem then_len (was : Ti) : ∀ here : Ti, (thenV was here).length ≤ was.length + here.length := by
  intro here
  induction here generalizing was with
  | nil => exact Nat.le_refl _
  | cons p r ih =>
    unfold thenV at ih ⊢
    rw [List.foldl_cons]
    have h1 := ih (thenS was p)
    have h2 := setI_len was p.1 (atI was p.1 + p.2)
    unfold thenS at h1 ⊢
    simp only [List.length_cons]
    omega
theorem then_at (was : Ti) {here : Ti} {i : Nat} (h : i < here.length) : thenV was (here.take (i + 1)) = setI (thenV was (here.take i)) (here.getD i d0).1 (atI (thenV was (here.take i)) (here.getD i d0).1 + (here.getD i d0).2) := by
  unfold thenV
  rw [fold_at _ _ here d0 h]
  rfl
theorem setL_any (p : Option Addr) (cp : Nat) (L : Ti) (s : ByteArray) (c : Int) (w : World) (hn : L.length ≤ 100000) (h : ItLs w p L) :
    Calls Try.prog 32 #[.slice p L.length cp, .string s, .int .i64 c] w fun e w' => (∃ q cq, e = .returned (.slice q (setI L s c).length cq) ∧ ItLs w' q (setI L s c)) ∧ Below w.heap.size w w' := by
  refine (set_any p cp L s c w hn h).mono ?_
  rintro e w' ⟨v, rfl, hv, hb⟩
  obtain ⟨q, cq, rfl, hq⟩ := hv.ls
  exact ⟨⟨q, cq, rfl, hq⟩, hb⟩
theorem out_len {g : Int} {was : Ti} {L : List Lm} : ∀ (W : Ti) (st : St), (W.foldl (takeS g was L) st).2.2.2.length ≤ st.2.2.2.length + W.length ∧ (W.foldl (takeS g was L) st).2.2.1.length ≤ st.2.2.1.length + W.length
  | [], st => ⟨Nat.le_refl _, Nat.le_refl _⟩
  | it :: r, st => by
    rw [List.foldl_cons]
    have h := out_len (g := g) (was := was) (L := L) r (takeS g was L st it)
    have h2 : (takeS g was L st it).2.2.2.length ≤ st.2.2.2.length + 1 ∧ (takeS g was L st it).2.2.1.length ≤ st.2.2.1.length + 1 := by
      unfold takeS
      split
      · exact ⟨by omega, by omega⟩
      · split
        · exact ⟨by dsimp only; omega, by dsimp only; omega⟩
        · split
          · exact ⟨by dsimp only; omega, by dsimp only; omega⟩
          · split
            · exact ⟨by dsimp only; omega, by dsimp only; omega⟩
            · refine ⟨?_, setI_len _ _ _⟩
              dsimp only
              split
              · omega
              · simp
    simp only [List.length_cons]
    omega

set_option maxHeartbeats 8000000 in
set_option maxRecDepth 100000 in
theorem rTake_any (g : Int) (pr : Option Addr) (cr : Nat) (was : Ti) (pw : Option Addr) (cw : Nat) (W : Ti) (pl : Option Addr) (cl : Nat) (L : List Lm) (w : World) (hnw : was.length ≤ 1000) (hnW : W.length ≤ 4611686018427387904) (hnL : L.length ≤ 4611686018427387904)
    (hzW : SzI W) (hzL : SzL L) (hr : ItLs w pr was) (hW : ItLs w pw W) (hL : LmLs w pl L) :
    Calls Try.prog 14 #[.int .i64 g, .slice pr was.length cr, .slice pw W.length cw, .slice pl L.length cl] w (RtPost g was W L w) := by
  have HC := Lib.hid (rCheck_any pl cl L w hnL hzL hL)
  have HI := Lib.hid hW
  have HR := Lib.hid hr
  have HL := Lib.hid hL
  have HZ := Lib.hid hzW
  clear hL hW hr hzW hzL
  by_cases hg1 : g ≤ 1125899906842624
  case neg =>
    have hE : takeE g was W L = 2 := by unfold takeE; rw [if_pos (by unfold Ra.fitsB; rw [decide_eq_false hg1, Bool.and_false])]
    unfold RtPost
    rw [hE]
    clear hE HC
    go_enter Try.func14, Try.ntmps14
    go_wp2
    exact bodyPost_ret (v := .tuple #[.slice none 0 0, .slice none 0 0, .int .i64 2]) (by simp [results, Try.results14, go_sem]) rfl ⟨by first | exact .inl ⟨by decide, rfl⟩ | exact rfl, Below.refl _ _⟩
  by_cases hg0 : -1125899906842624 ≤ g
  case neg =>
    have hE : takeE g was W L = 2 := by unfold takeE; rw [if_pos (by unfold Ra.fitsB; rw [decide_eq_false hg0, Bool.false_and])]
    unfold RtPost
    rw [hE]
    clear hE HC
    go_enter Try.func14, Try.ntmps14
    go_wp2
    exact bodyPost_ret (v := .tuple #[.slice none 0 0, .slice none 0 0, .int .i64 2]) (by simp [results, Try.results14, go_sem]) rfl ⟨by first | exact .inl ⟨by decide, rfl⟩ | exact rfl, Below.refl _ _⟩
  have hg : fitsB g = true := fitsB_iff.2 ⟨hg0, hg1⟩
  have hE1 : takeE g was W L = if chkV L ≠ 0 then chkV L else if 64 < W.length then 5 else (takeF g was L W).1 := by unfold takeE; rw [if_neg (by rw [hg]; simp)]
  by_cases hcv : chkV L = 0
  case neg =>
    rw [if_pos hcv] at hE1
    unfold RtPost
    rw [hE1]
    have HN := Lib.hid hcv
    have dn : (chkV L != 0) = true := by simpa using hcv
    clear hE1 hcv hg
    go_enter Try.func14, Try.ntmps14
    go_wp2_with fail
    refine (HC.out).mono ?_
    rintro e w1 ⟨rfl, hb⟩
    clear HC
    go_wp2
    exact bodyPost_ret (v := .tuple #[.slice none 0 0, .slice none 0 0, .int .i64 (chkV L)]) (by simp [results, Try.results14, go_sem]) rfl ⟨.inl ⟨HN.out, rfl⟩, hb⟩
  rw [if_neg (by simpa using hcv)] at hE1
  have hcf : (chkF L).1 = 0 := by
    unfold chkV at hcv
    split at hcv
    · omega
    · exact hcv
  rw [hcv] at HC
  have HCF := Lib.hid hcf
  clear hcf hcv
  by_cases h64 : 64 < W.length
  · rw [if_pos h64] at hE1
    have i1 : (64 : Int) < (W.length : Int) := by omega
    unfold RtPost
    rw [hE1]
    clear hE1 hg
    go_enter Try.func14, Try.ntmps14
    go_wp2_with fail
    refine (HC.out).mono ?_
    rintro e w1 ⟨rfl, hb⟩
    clear HC
    go_wp2
    exact bodyPost_ret (v := .tuple #[.slice none 0 0, .slice none 0 0, .int .i64 5]) (by simp [results, Try.results14, go_sem]) rfl ⟨.inl ⟨by decide, rfl⟩, hb⟩
  rw [if_neg h64] at hE1
  have HE1 := Lib.hid hE1
  have HG := Lib.hid hg
  have i1 : ¬ (64 : Int) < (W.length : Int) := by omega
  clear hE1 hg
  go_enter Try.func14, Try.ntmps14
  go_wp2_with fail
  refine (HC.out).mono ?_
  rintro e w1 ⟨rfl, hb1⟩
  clear HC
  have HT0 : Hid (RtInv w g was L W 0 (.slice none 0 0) (.slice none 0 0) g w1) := Lib.hid ⟨rfl, rfl, OwnI.nil _ _ _, OwnI.nil _ _ _, hb1, by simp [takeF], by simp [takeF], hg0⟩
  clear hb1
  go_wp2
  go_loopw [12, 13, 14, 15] (fun v hv lv i wr => ∃ k : Nat, ∃ vv vh : Value, ∃ left : Int, vv = v ∧ vh = hv ∧ lv = .int .i64 left ∧ k ≤ W.length ∧ i = .int .i64 k ∧ Hid (RtInv w g was L W k vv vh left wr)) (fun _ _ _ i _ => W.length - (RowKit.intOf i).toNat)
  case atStart => exact ⟨0, _, _, g, rfl, rfl, rfl, Nat.zero_le _, rfl, HT0⟩
  case round =>
    clear HT0
    rename World => wq
    obtain ⟨k, v, hv, left, rfl, rfl, rfl, hk, rfl, HT⟩ := hrel
    by_cases hlt : k < W.length
    case neg =>
      obtain rfl : k = W.length := by omega
      obtain ⟨t1, tl, hO, hH, hbel, hol, hhl, hll⟩ := HT.out
      rw [List.take_length] at t1 tl hO hH hol hhl
      have hinv := inv_at (g := g) (was := was) (W := W) HG.out HCF.out W.length (Nat.le_refl _) (by rw [List.take_length]; exact t1)
      rw [List.take_length] at hinv
      have huq : UqI (takeF g was L W).2.2.1 := here_uq g was L W (0, g, [], []) List.Pairwise.nil
      have HE0 : Hid (takeE g was W L = 0) := Lib.hid (by rw [HE1.out, t1])
      generalize hst : takeF g was L W = st at t1 tl hO hH hol hhl hinv huq
      obtain ⟨er, left', here, out⟩ := st
      dsimp only at t1 tl hO hH hol hhl hinv huq
      subst t1
      subst tl
      have HSQ := Lib.hid hst
      clear hst
      obtain ⟨-, hin⟩ := hinv
      obtain ⟨ph, ch, rfl, hls⟩ := hH.ls
      have HLS := Lib.hid hls
      have HO := Lib.hid hO
      have HB := Lib.hid hbel
      have HIN : Hid (∀ i, i < here.length → atI (thenV was (here.take i)) (here.getD i d0).1 = atI was (here.getD i d0).1 ∧ 0 ≤ atI was (here.getD i d0).1 ∧ 0 ≤ (here.getD i d0).2 ∧ atI was (here.getD i d0).1 + (here.getD i d0).2 ≤ 1125899906842624) := Lib.hid (fun i hi => by
        obtain ⟨h1, h2⟩ := uq_at huq hi
        have h3 := hasI_mem hi
        obtain ⟨i0, -, -, i3⟩ := hin (here.getD i d0).1
        have h4 := i3 h3
        rw [h2] at i0 h4
        have h5 := then_is (here.take i) was (List.Pairwise.sublist (List.take_sublist _ _) huq) (here.getD i d0).1
        exact ⟨by rw [h5.2, atI_not h1]; omega, h4.1, i0, h4.2⟩)
      have hgs : w.heap.size ≤ wq.heap.size := hbel.size
      have HT3 : Hid (ItLs wq pr (thenV was (here.take 0))) := Lib.hid (HR.out.below hbel)
      clear HT hO hH hbel hin huq hls hll
      go_wp2
      go_loopw [1, 21] (fun sv iv wr => ∃ i : Nat, ∃ q : Option Addr, ∃ cq : Nat, i ≤ here.length ∧ sv = .slice q (thenV was (here.take i)).length cq ∧ iv = .int .i64 i ∧ Hid (ItLs wr q (thenV was (here.take i))) ∧ Hid (Below wq.heap.size wq wr)) (fun _ iv _ => here.length - (RowKit.intOf iv).toNat)
      case atStart => exact ⟨0, pr, cr, Nat.zero_le _, rfl, rfl, HT3, Lib.hid (Below.refl _ _)⟩
      case round =>
        clear HT3
        obtain ⟨i, q, cq, hi, rfl, rfl, HQ, HBI⟩ := hrel
        by_cases hil : i < here.length
        case neg =>
          obtain rfl : i = here.length := by omega
          have HQ2 : Hid (ItLs wr q (thenV was here)) := Lib.hid (by have := HQ.out; rwa [List.take_length] at this)
          have hq2 : (thenV was (here.take here.length)).length = (thenV was here).length := by rw [List.take_length]
          rw [hq2]
          clear hq2 HQ
          go_wp2
          exact bodyPost_ret (v := .tuple #[v, .slice q (thenV was here).length cq, .int .i64 0]) (by simp [results, Try.results14, go_sem]) rfl ⟨.inr ⟨HE0.out, v, q, cq, by rw [HSQ.out], by rw [HSQ.out]; exact HO.out.below HBI.out, by rw [HSQ.out]; exact HQ2.out⟩, HB.out.trans (HBI.out.mono hgs)⟩
        case pos =>
          obtain ⟨b, o, rfl, hb9, c0, c1⟩ := ItIn.at HLS.out hil
          replace c0 := (HBI.out.cell (p := ⟨b, o + i * 2, none⟩) (by omega)).trans c0
          replace c1 := (HBI.out.cell (p := ⟨b, o + i * 2 + 1, none⟩) (by omega)).trans c1
          obtain ⟨x1, x2, x3, x4⟩ := HIN.out i hil
          have hta := then_at was hil
          have htl := then_len was (here.take i)
          have htl2 : (here.take i).length ≤ 64 := by simp; omega
          have i3 : (i : Int) < (here.length : Int) := by omega
          have i4 : (0 : Int) ≤ (i : Int) := by omega
          generalize thenV was (here.take i) = T at *
          generalize here.getD i d0 = it at *
          obtain ⟨s, x⟩ := it
          dsimp only at c0 c1 x1 x2 x3 x4 hta
          have HTA := Lib.hid hta
          have HAT := Lib.hid (fun V (hV : Below wr.heap.size wr V) => at_any q cq T s V (by omega) (HQ.out.below hV))
          have HST := Lib.hid (fun V (hV : Below wr.heap.size wr V) => setL_any q cq T s (atI T s + x) V (by omega) (HQ.out.below hV))
          have a0 : 0 ≤ atI T s := by omega
          have a1 : atI T s + x ≤ 1125899906842624 := by omega
          generalize atI T s = a at *
          have u1 : IntKind.i64.wrap (a + x) = a + x := IntWalk.i64_in _ (by omega)
          have KP : Hid (∀ w', Below wr.heap.size wr w' → (w'.cell? ⟨b, o + i * 2, none⟩ = some (.string s) ∧ w'.cell? ⟨b, o + i * 2 + 1, none⟩ = some (.int .i64 x)) ∧ Below wr.heap.size wr w') := Lib.hid (fun w' h =>
            ⟨⟨(h.cell (p := ⟨b, o + i * 2, none⟩) (World.block_lt_of_cell? _ _ c0)).trans c0, (h.cell (p := ⟨b, o + i * 2 + 1, none⟩) (World.block_lt_of_cell? _ _ c1)).trans c1⟩, h⟩)
          have hdr : Below wr.heap.size wr wr.drew := (Below.refl _ _).drew
          clear hta x1 x2 htl htl2 hb9
          go_upto_region 39 with fail
          go_region_held3 (fun w' => (w'.cell? ⟨b, o + i * 2, none⟩ = some (.string s) ∧ w'.cell? ⟨b, o + i * 2 + 1, none⟩ = some (.int .i64 x)) ∧ Below wr.heap.size wr w')
            (first | with_reducible exact KP.out _ hdr | with_reducible exact KP.out _ (by assumption))
            (first | (go_at_call 18; refine (HAT.out _ (by assumption)).mono ?_; rintro e w5 ⟨rfl, rfl⟩) | (go_at_call 32; refine (HST.out _ (by assumption)).mono ?_; rintro e w6 ⟨⟨q6, c6, rfl, hq6⟩, hb6⟩; have hk6 : Below wr.heap.size wr w6 := s_call hb6 (by assumption)))
          have HQ6 : Hid (ItLs w6 q6 (thenV was (here.take (i + 1)))) := Lib.hid (by rw [HTA.out]; exact hq6)
          have HK6 := Lib.hid (HBI.out.trans (hk6.mono HBI.out.size))
          rw [← HTA.out]
          clear hq6 hk6 HAT HST KP HTA hdr
          go_wp2
          exact ⟨⟨i + 1, q6, c6, by omega, rfl, by go_num, HQ6, HK6⟩, by simp [RowKit.intOf]; omega⟩
    case pos =>
      obtain ⟨t1, tl, hO, hH, hbel, hol, hhl, hll⟩ := HT.out
      clear HT
      have hinv := inv_at (was := was) HG.out HCF.out k hk t1
      have hnx := take_next hlt t1
      have hbad := fun e M h h2 => @take_bad g was L W k hlt e M h h2
      have hs := HZ.out k hlt
      obtain ⟨bw, ow, rfl, hbw9, c0, c1⟩ := ItIn.at HI.out hlt
      replace c0 := (hbel.cell (p := ⟨bw, ow + k * 2, none⟩) hbw9).trans c0
      replace c1 := (hbel.cell (p := ⟨bw, ow + k * 2 + 1, none⟩) hbw9).trans c1
      generalize W.getD k d0 = it at hnx hbad c0 c1 hs
      obtain ⟨s, c⟩ := it
      dsimp only at c0 c1 hs
      generalize takeF g was L (W.take k) = st at t1 tl hH hO hol hhl hinv hnx hbad
      obtain ⟨er, left', here, out⟩ := st
      dsimp only at t1 tl hH hO hol hhl hinv
      subst t1
      subst tl
      have i2 : (k : Int) < (W.length : Int) := by omega
      obtain ⟨W1, hW1⟩ : ∃ W1, W1 = wq.alloc (.cells #[.string s, .int .i64 c] 43) := ⟨_, rfl⟩
      have hk1 : Below wq.heap.size wq W1 := by rw [hW1]; exact (Below.refl _ _).alloc (Nat.le_refl _) _
      have e0 : W1.cell? ⟨wq.heap.size, 0, none⟩ = some (.string s) := by rw [hW1, World.cell?_alloc_new]; rfl
      have e1 : W1.cell? ⟨wq.heap.size, 1, none⟩ = some (.int .i64 c) := by rw [hW1, World.cell?_alloc_new]; rfl
      have hb1 := hbel.trans (hk1.mono hbel.size)
      have HO1 := Lib.hid (hO.below hk1)
      have HH1 := Lib.hid (hH.below hk1)
      have HB1 := Lib.hid hb1
      have hgs : w.heap.size ≤ wq.heap.size := hbel.size
      have HAT := Lib.hid (fun V (hV : Below w.heap.size w V) => at_any pr cr was s V (by omega) (HR.out.below hV))
      have HNM := Lib.hid (fun V => rName_any s (sz_big hs) V)
      clear hO hH hbel hb1 hk1
      go_upto_region 15 with fail
      rw [← hW1]
      clear hW1 c0 c1
      generalize wq.heap.size = g16 at e0 e1 hgs ⊢
      go_wp2_with fail
      refine (HAT.out _ HB1.out).mono ?_
      rintro e w9 ⟨rfl, rfl⟩
      clear HAT
      cases hnm : nameB s
      · have hE : itE was (s, c) = 12 := by unfold itE; rw [if_pos hnm]
        have HE := Lib.hid (hbad 12 _ (by rw [takeS_it (by rw [hE]; omega), hE]) (by omega))
        rw [hnm] at HNM
        clear hbad hnx hinv hE hnm HO1 HH1
        go_wp2_with (first | (go_at_call 30; refine (HNM.out _).mono ?_; rintro e w4 ⟨rfl, rfl⟩))
        exact bodyPost_ret (v := .tuple #[.slice none 0 0, .slice none 0 0, .int .i64 12]) (by simp [results, Try.results14, go_sem]) rfl ⟨.inl (by rw [HE1.out, HE.out]; exact ⟨by decide, rfl⟩), HB1.out⟩
      rw [hnm] at HNM
      by_cases hok : (fit0 c && fit0 (atI was s)) = true
      case neg =>
        have hE : itE was (s, c) = 2 := by unfold itE; rw [if_neg (by simp [hnm]), if_pos (by simpa using hok)]
        have HE := Lib.hid (hbad 2 _ (by rw [takeS_it (by rw [hE]; omega), hE]) (by omega))
        have HOK := Lib.hid hok
        generalize atI was s = so at *
        clear hbad hnx hinv hE hnm HO1 HH1 hok
        rcases it_ways c so with ⟨o9, -⟩ | ⟨o9, d1⟩ | ⟨o9, d1, d2⟩ | ⟨o9, d1, d2, d3⟩ | ⟨o9, d1, d2, d3, d4⟩
        · exact absurd o9 HOK.out
        all_goals
          clear o9
          go_wp2_with (first | (go_at_call 30; refine (HNM.out _).mono ?_; rintro e w4 ⟨rfl, rfl⟩))
          exact bodyPost_ret (v := .tuple #[.slice none 0 0, .slice none 0 0, .int .i64 2]) (by simp [results, Try.results14, go_sem]) rfl ⟨.inl (by rw [HE1.out, HE.out]; exact ⟨by decide, rfl⟩), HB1.out⟩
      case pos =>
      have hE : itE was (s, c) = 0 := by unfold itE; rw [if_neg (by simp [hnm]), if_neg (by simpa using hok)]
      have HS := Lib.hid (takeS_ok (g := g) (L := L) (left := left) (here := here) (out := out) hE)
      obtain ⟨n2, n3⟩ : fit0 c = true ∧ fit0 (atI was s) = true := by simpa using hok
      obtain ⟨q0, q1⟩ := fit0_iff.1 n2
      obtain ⟨r0, r1⟩ := fit0_iff.1 n3
      obtain ⟨C0, C1⟩ := takeC_bd (g := g) (was := was) (L := L) (left := left) (here := here) (it := (s, c))
      obtain ⟨hlg, hin⟩ := hinv
      obtain ⟨j0, j1, -, -⟩ := hin s
      have hgf := fitsB_iff.1 HG.out
      have j2 : atI here s ≤ 1125899906842624 := by omega
      obtain ⟨ph, ch, rfl, hls⟩ := HH1.out.ls
      have HAH := Lib.hid (at_any ph ch here s W1 (by omega) hls)
      have hcb : ∀ j, 0 ≤ capV g (atI was s) (atI here s) (L.take j) s (max 0 (min c left)) ∧ capV g (atI was s) (atI here s) (L.take j) s (max 0 (min c left)) ≤ 1125899906842624 := fun j => by
        have := cap_le (g := g) (so := atI was s) (now := atI here s) (s := s) (L.take j) (c := max 0 (min c left)) (by omega)
        omega
      have hcn : takeC g was L left here (s, c) = capV g (atI was s) (atI here s) L s (max 0 (min c left)) := rfl
      dsimp only at HS C0 C1
      have C2 : takeC g was L left here (s, c) ≤ max 0 left := by omega
      generalize takeC g was L left here (s, c) = C at HS C0 C1 C2 hcn
      rcases it_ways c (atI was s) with ⟨o9, d1, d2, d3, d4⟩ | ⟨o9, -⟩ | ⟨o9, -⟩ | ⟨o9, -⟩ | ⟨o9, -⟩
      rotate_left
      all_goals first | (rw [o9] at hok; cases hok; done) | skip
      have HH := Lib.hid HH1.out
      have HHL := Lib.hid hls
      generalize hso : atI was s = so at *
      generalize hnw : atI here s = now at *
      have hcapat := fun j (h : j < L.length) => cap_at (g := g) (so := so) (now := now) (s := s) h (max 0 (min c left))
      have HCA := Lib.hid hcapat
      have HCB := Lib.hid hcb
      have HCN := Lib.hid hcn
      have HNX := Lib.hid hnx
      have HBAD := Lib.hid hbad
      have lb1 : left ≤ 1125899906842624 := by omega
      have LB := Lib.hid (And.intro hlg (And.intro j0 j1))
      clear hcapat hcb hcn hnx hbad hE hin hlg hok n2 n3 hnm hls o9 j1
      go_upto_region 22 with (first | (go_at_call 30; refine (HNM.out _).mono ?_; rintro e w4 ⟨rfl, rfl⟩) | (go_at_call 18; refine (HAH.out).mono ?_; rintro e w4 ⟨rfl, rfl⟩))
      clear HAH HNM d1 d2 d3 d4
      generalize hc1 : max 0 (min c left) = c1 at *
      go_wp2
      go_loopw [19, 20] (fun cv jv wr => ∃ j : Nat, ∃ x : Int, j ≤ L.length ∧ cv = .int .i64 x ∧ jv = .int .i64 j ∧ Hid (x = capV g so now (L.take j) s c1) ∧ wr.cell? ⟨g16, 0, none⟩ = some (.string s) ∧ Hid (Below W1.heap.size W1 wr)) (fun _ jv _ => L.length - (RowKit.intOf jv).toNat)
      case atStart => exact ⟨0, c1, Nat.zero_le _, rfl, rfl, Lib.hid rfl, e0, Lib.hid (Below.refl _ _)⟩
      case round =>
        clear e0
        obtain ⟨j, x, hj, rfl, rfl, HX, e0, HBJ⟩ := hrel
        have hxb := HCB.out j
        rw [← HX.out] at hxb
        obtain ⟨x0, x1⟩ := hxb
        by_cases hjl : j < L.length
        case pos =>
          obtain ⟨bl, ol, rfl, hbl9, c0, c1', c2⟩ := LmLs.at HL.out hjl
          have hbJ : Below w.heap.size w wr := HB1.out.trans (HBJ.out.mono HB1.out.size)
          replace c0 := (hbJ.cell (p := ⟨bl, ol + j * 3, none⟩) hbl9).trans c0
          replace c1' := (hbJ.cell (p := ⟨bl, ol + j * 3 + 1, none⟩) hbl9).trans c1'
          replace c2 := (hbJ.cell (p := ⟨bl, ol + j * 3 + 2, none⟩) hbl9).trans c2
          obtain ⟨-, -, hokl⟩ := chk_right HCF.out hjl
          have hca := HCA.out j hjl
          rw [← HX.out] at hca
          generalize L.getD j dL = l at c0 c1' c2 hokl hca
          obtain ⟨ls, m, y⟩ := l
          dsimp only at c0 c1' c2
          simp only [okLm, Bool.and_eq_true] at hokl
          obtain ⟨hm1, hy1⟩ := hokl
          obtain ⟨m0, m1⟩ := partB_iff.1 hm1
          obtain ⟨y0, y1⟩ := fit0_iff.1 hy1
          have i3 : (j : Int) < (L.length : Int) := by omega
          have i4 : (0 : Int) ≤ (j : Int) := by omega
          clear hbJ
          by_cases e : ls = s
          case neg =>
            have d1 := ne_list e
            have HX2 : Hid (x = capV g so now (L.take (j + 1)) s c1) := Lib.hid (by rw [hca]; unfold capS; rw [if_neg e])
            clear hca
            go_wp2
            go_quiet (fail)
            go_wp2
            exact ⟨⟨j + 1, x, by omega, rfl, by go_num, HX2, e0, Lib.hid (below_drewN HBJ.out _)⟩, by simp [RowKit.intOf]; omega⟩
          case pos =>
            subst e
            have HX2 : Hid (capV g so now (L.take (j + 1)) ls c1 = capF g so now (ls, m, y) x) := Lib.hid (by rw [hca]; unfold capS; rw [if_pos rfl])
            have hpb := partP_bd (g := max 0 g) (by omega) (by omega) hm1
            have HPT := Lib.hid (fun V => rpart_any (max 0 g) m (by omega) (by omega) m0 m1 V)
            have hcf2 : capF g so now (ls, m, y) x = if y ≠ 0 then min (if m ≠ 1000000 then min x (max 0 (partP (max 0 g) m - now)) else x) (max 0 (y - so - now)) else if m ≠ 1000000 then min x (max 0 (partP (max 0 g) m - now)) else x := rfl
            have HCF2 := Lib.hid hcf2
            generalize partP (max 0 g) m = P at HPT hpb HCF2 hcf2
            obtain ⟨p0, p1'⟩ := hpb
            have p1 : P ≤ 1125899906842624 := by omega
            clear hca hcf2 p1'
            go_upto_region 25 with fail
            go_quiet (fail)
            clear c0
            by_cases hm : m = 1000000
            case pos =>
              subst hm
              by_cases hy : y = 0
              case pos =>
                subst hy
                have HE9 : Hid (x = capV g so now (L.take (j + 1)) ls c1) := Lib.hid (by rw [HX2.out, HCF2.out, if_neg (by simp), if_neg (by simp)])
                clear HX2 HCF2 HPT
                go_wp2
                exact ⟨⟨j + 1, x, by omega, rfl, by go_num, HE9, e0, Lib.hid (below_drewN HBJ.out _)⟩, by simp [RowKit.intOf]; omega⟩
              case neg =>
                have dy : (y != 0) = true := by simpa using hy
                have HE9 : Hid (min x (max 0 (y - so - now)) = capV g so now (L.take (j + 1)) ls c1) := Lib.hid (by rw [HX2.out, HCF2.out, if_pos hy, if_neg (by simp)])
                clear HX2 HCF2 HPT
                go_wp2
                exact ⟨⟨j + 1, _, by omega, rfl, by go_num, Lib.hid (by rw [← HE9.out]), e0, Lib.hid (below_drewN HBJ.out _)⟩, by simp [RowKit.intOf]; omega⟩
            case neg =>
              have dm : (m != 1000000) = true := by simpa using hm
              by_cases hy : y = 0
              case pos =>
                subst hy
                have HE9 : Hid (min x (max 0 (P - now)) = capV g so now (L.take (j + 1)) ls c1) := Lib.hid (by rw [HX2.out, HCF2.out, if_neg (by simp), if_pos hm])
                clear HX2 HCF2
                go_wp2_with fail
                refine (HPT.out _).mono ?_
                rintro e w4 ⟨rfl, rfl⟩
                go_wp2
                exact ⟨⟨j + 1, _, by omega, rfl, by go_num, Lib.hid (by rw [← HE9.out]), e0, Lib.hid (below_drewN HBJ.out _)⟩, by simp [RowKit.intOf]; omega⟩
              case neg =>
                have dy : (y != 0) = true := by simpa using hy
                have HE9 : Hid (min (min x (max 0 (P - now))) (max 0 (y - so - now)) = capV g so now (L.take (j + 1)) ls c1) := Lib.hid (by rw [HX2.out, HCF2.out, if_pos hy, if_pos hm])
                clear HX2 HCF2
                go_wp2_with fail
                refine (HPT.out _).mono ?_
                rintro e w4 ⟨rfl, rfl⟩
                go_wp2
                exact ⟨⟨j + 1, _, by omega, rfl, by go_num, Lib.hid (by rw [← HE9.out]; omega), e0, Lib.hid (below_drewN HBJ.out _)⟩, by simp [RowKit.intOf]; omega⟩
        case neg =>
          obtain rfl : j = L.length := by omega
          have hxC : x = C := by have := HX.out; rw [List.take_length, ← HCN.out] at this; exact this
          subst hxC
          have hbJ : Below w.heap.size w wr := HB1.out.trans (HBJ.out.mono HB1.out.size)
          have HOJ := Lib.hid (HO1.out.below HBJ.out)
          have HHJ := Lib.hid (HH.out.below HBJ.out)
          have HBW := Lib.hid hbJ
          have hgw : w.heap.size ≤ wr.heap.size := hbJ.size
          clear hbJ HX HCA HCB HCN HO1 HH
          by_cases hov : 1125899906842624 - now - x < so
          · have HE : Hid ((takeF g was L W).1 = 9) := Lib.hid (HBAD.out 9 (left, here, out) (by rw [HS.out, if_pos hov]) (by omega))
            have dv : decide (1125899906842624 - now - x < so) = true := decide_eq_true hov
            clear HBAD HNX HS
            go_wp2
            exact bodyPost_ret (v := .tuple #[.slice none 0 0, .slice none 0 0, .int .i64 9]) (by simp [results, Try.results14, go_sem]) rfl ⟨.inl (by rw [HE1.out, HE.out]; exact ⟨by decide, rfl⟩), HBW.out⟩
          · have HE : Hid (takeF g was L (W.take (k + 1)) = (0, left - x, setI here s (now + x), if x = 0 then out else out ++ [(s, x)])) := Lib.hid (by
              rw [HNX.out, HS.out, if_neg hov])
            have dv : decide (1125899906842624 - now - x < so) = false := decide_eq_false hov
            have HST := Lib.hid (set_any ph ch here s (now + x) wr (by omega) (HHL.out.below HBJ.out))
            have hsl := setI_len here s (now + x)
            clear HBAD HNX HS HHL HHJ hov
            go_wp2_with fail
            refine (HST.out).mono ?_
            rintro e w5 ⟨vh, rfl, hvh, hb5⟩
            have HH5 := Lib.hid (hvh.mono hgw)
            have HO5 := Lib.hid (HOJ.out.below hb5)
            have HB5 := Lib.hid (HBW.out.trans (hb5.mono HBW.out.size))
            have hgw5 : w.heap.size ≤ w5.heap.size := HB5.out.size
            replace e0 := (hb5.cell (p := ⟨g16, 0, none⟩) (World.block_lt_of_cell? _ _ e0)).trans e0
            clear hvh hb5 HOJ HBW HST
            by_cases hx0 : x = 0
            · have HT8 : Hid (RtInv w g was L W (k + 1) v vh (left - x) w5) := Lib.hid (by
                refine ⟨by rw [HE.out], by rw [HE.out], by rw [HE.out]; dsimp only; rw [if_pos hx0]; exact HO5.out, by rw [HE.out]; exact HH5.out, HB5.out, by rw [HE.out]; dsimp only; rw [if_pos hx0]; omega, by rw [HE.out]; dsimp only; omega, by omega⟩)
              subst hx0
              clear HE HO5 HH5 HB5
              go_wp2
              exact ⟨⟨k + 1, v, vh, left - 0, rfl, rfl, by first | rfl | (congr 1; omega), by omega, by go_num, HT8⟩, by simp [RowKit.intOf]; omega⟩
            · have i5 : 0 < x := by omega
              have HOA := Lib.hid (own_apart HO5.out HH5.out (by decide))
              go_wp2_with (at_builtin; refine it_arm Try.underlying24 infoItem HO5.out HB5.out hgw5 (by omega) s x rfl _ _ rfl rfl rfl ?_; intro v' w6 ho hb6 hg6 hv6; have HO6 := Lib.hid ho; have HB6 := Lib.hid hb6; have HG6 := Lib.hid hg6; clear ho hb6 hg6 hv6)
              have HT8 : Hid (RtInv w g was L W (k + 1) v' vh (left - x) w6) := Lib.hid (by
                refine ⟨by rw [HE.out], by rw [HE.out], by rw [HE.out]; dsimp only; rw [if_neg hx0]; exact HO6.out, by rw [HE.out]; exact (HH5.out.below ((Below.refl _ _).alloc (Nat.le_refl _) _)).grown HG6.out HOA.out, HB6.out, by rw [HE.out]; dsimp only; rw [if_neg hx0]; simp; omega, by rw [HE.out]; dsimp only; omega, by omega⟩)
              exact ⟨⟨k + 1, v', vh, left - x, rfl, rfl, rfl, by omega, by go_num, HT8⟩, by simp [RowKit.intOf]; omega⟩

end Go.Proofs.Ytaeldoipflcknaa
