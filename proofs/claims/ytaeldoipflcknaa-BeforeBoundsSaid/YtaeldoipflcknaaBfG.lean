/-
  What is proved: the contract of before.Take. Conditions: what is handed in lies in memory as the contract says.
-/
import Derived.Test.YtaeldoipflcknaaBfF
namespace Go.Proofs.Ytaeldoipflcknaa
open Go Go.RowKit Go.Lib Go.Proofs
open Ra (fitsB fitsB_iff)
set_option linter.unusedVariables false

theorem OwnI.mono {w : World} {B B' : Nat} {E : TypeId} {v : Value} {L : Ti} (h : OwnI w B E v L) (hB : B' ≤ B) : OwnI w B' E v L := by
  refine ⟨h.1, ?_⟩
  rcases h.2 with hn | ⟨g, cap, cur, e1, e2, r⟩
  · exact .inl hn
  · exact .inr ⟨g, cap, cur, e1, by omega, r⟩
theorem OwnI.set {w : World} {B : Nat} {E : TypeId} {v : Value} {L : Ti} (h : OwnI w B E v L) {g i : Nat} (hg : g < B) (u : Value) : OwnI (w.setCell ⟨g, i, none⟩ u) B E v L := by
  refine ⟨h.1, ?_⟩
  rcases h.2 with hn | ⟨b, cap, cur, hv, hb, hh, rest⟩
  · exact .inl hn
  · refine .inr ⟨b, cap, cur, hv, hb, ?_, rest⟩
    rw [Below.heap_setCell _ _ _ _ (by show b ≠ g; omega)]; exact hh
theorem OwnI.ne {w : World} {B : Nat} {E : TypeId} {v : Value} {L : Ti} (h : OwnI w B E v L) {b : Nat} (hb : b < B) : v.ownBlock ≠ some b := fun e => by have := (h.lt b e).1; omega

/-- What is taken of an item is what the document says. -/
theorem take_room {g : Int} {was here N : Ti} {L : List Lm} {left c v : Int} {s : ByteArray} (hi : Inv g was L left here) (hc : (chkF L).1 = 0) (h0 : 0 ≤ c) (hN : atI N s = atI was s + atI here s)
    (h1 : hasL L s = false → v = max 0 left) (h2 : ∀ l ∈ L, l.1 = s → v = roomF (max g 0) (max 0 left) (atI was s) (atI N s) l) : min c v = takeC g was L left here (s, c) := by
  obtain ⟨hl, hi⟩ := hi
  obtain ⟨i0, i1, i2, i3⟩ := hi s
  cases h : hasL L s
  · rw [h1 h]
    unfold takeC
    dsimp only
    rw [cap_not L _ h]
    omega
  · obtain ⟨l, hm, e, hok, -, hcap, -⟩ := cap_one hc h
    subst e
    rw [h2 l hm rfl]
    unfold takeC
    dsimp only
    rw [hcap]
    have i2 := i2 l hm rfl
    obtain ⟨s, m, y⟩ := l
    dsimp only at *
    unfold roomF capF
    dsimp only
    rw [show max 0 g = max g 0 by omega] at *
    by_cases hm6 : m = 1000000
    · subst hm6
      rw [partP_all]
      simp only [ne_eq, not_true_eq_false, if_false]
      split <;> omega
    · have i2 := i2 hm6
      simp only [ne_eq, hm6, not_false_eq_true, if_true]
      split <;> omega

/-- The year's block. -/
def Yr (w : World) (gy : Nat) (g left : Int) (p : Option Nat) (b bl : Nat) : Prop := w.cell? ⟨gy, 0, none⟩ = some (.int .i64 g) ∧ w.cell? ⟨gy, 1, none⟩ = some (.int .i64 left) ∧ w.cell? ⟨gy, 2, none⟩ = some (.map p) ∧ w.cell? ⟨gy, 3, none⟩ = some (.map (some b)) ∧ w.cell? ⟨gy, 4, none⟩ = some (.map (some bl)) ∧ w.frozen? ⟨gy, 1, none⟩ = false
theorem Yr.lt {w : World} {gy : Nat} {g left : Int} {p : Option Nat} {b bl : Nat} (h : Yr w gy g left p b bl) : gy < w.heap.size := World.block_lt_of_cell? _ _ h.1
theorem Yr.block {w w' : World} {gy : Nat} {g left : Int} {p : Option Nat} {b bl : Nat} (h : Yr w gy g left p b bl) (e : w'.heap[gy]? = w.heap[gy]?) : Yr w' gy g left p b bl := by
  obtain ⟨a, b, c, d, f, i⟩ := h
  have k := fun j => World.cell?_of_block (w := w) (w' := w') (a := ⟨gy, j, none⟩) e
  exact ⟨(k 0).trans a, (k 1).trans b, (k 2).trans c, (k 3).trans d, (k 4).trans f, (World.frozen?_of_block (a := ⟨gy, 1, none⟩) e).trans i⟩
theorem Yr.below {w w' : World} {gy : Nat} {g left : Int} {p : Option Nat} {b bl : Nat} (h : Yr w gy g left p b bl) (hb : Below w.heap.size w w') : Yr w' gy g left p b bl := h.block (hb.block _ h.lt)
theorem Yr.set {w : World} {gy : Nat} {g left : Int} {p : Option Nat} {b bl : Nat} (h : Yr w gy g left p b bl) (l2 : Int) : Yr (w.setCell ⟨gy, 1, none⟩ (.int .i64 l2)) gy g l2 p b bl := by
  obtain ⟨c0, c1, c2, c3, c4, f⟩ := h
  exact ⟨(set_off (by omega)).trans c0, set_in c1, (set_off (by omega)).trans c2, (set_off (by omega)).trans c3, (set_off (by omega)).trans c4, by rw [World.frozen?_setCell]; exact f⟩

/-- What holds ahead of each item. -/
def TkInv (w : World) (g : Int) (p : Option Nat) (was : Ti) (L : List Lm) (W : Ti) (gy b bl k : Nat) (v : Value) (wr : World) : Prop :=
  (takeF g was L (W.take k)).1 = 0 ∧ Yr wr gy (max g 0) (max 0 (takeF g was L (W.take k)).2.1) p b bl ∧ (∃ N : Ti, (∀ s, hasI N s = (hasI was s || hasI (takeF g was L (W.take k)).2.2.1 s) ∧ atI N s = atI was s + atI (takeF g was L (W.take k)).2.2.1 s) ∧ SM wr b (vT N) ∧ N.length ≤ was.length + k) ∧
  SM wr bl (lmT L) ∧ SMo wr p (vT was) ∧ OwnI wr (gy + 1) 43 v (takeF g was L (W.take k)).2.2.2 ∧ Below w.heap.size w wr ∧ (takeF g was L (W.take k)).2.2.2.length ≤ k
/-- A step: what the rest of the round has to show. -/
theorem take_next {g : Int} {was : Ti} {L : List Lm} {W : Ti} {k : Nat} (hk : k < W.length) (h : (takeF g was L (W.take k)).1 = 0) :
    takeF g was L (W.take (k + 1)) = takeS g was L (takeF g was L (W.take k)) (W.getD k d0) := by
  unfold takeF
  rw [fold_at _ _ W d0 hk]

theorem setI_len (L : Ti) (s : ByteArray) (v : Int) : (setI L s v).length ≤ L.length + 1 := by
  unfold setI delI
  have := List.length_filter_le (fun p : ByteArray × Int => decide (p.1 ≠ s)) L
  simp only [List.length_append, List.length_singleton]
  omega
theorem takeS_it {g : Int} {was : Ti} {L : List Lm} {left : Int} {here out : Ti} {it : ByteArray × Int} (h : itE was it ≠ 0) : takeS g was L (0, left, here, out) it = (itE was it, left, here, out) := by
  unfold itE at h ⊢
  unfold takeS
  rw [if_neg (by simp)]
  split
  · rfl
  · rename_i c
    rw [if_neg c] at h
    split
    · rfl
    · rename_i c2; rw [if_neg c2] at h; exact absurd rfl h
theorem itE_ok {was : Ti} {it : ByteArray × Int} (h : itE was it = 0) : nameB it.1 = true ∧ fit0 it.2 = true ∧ fit0 (atI was it.1) = true := by
  unfold itE at h
  split at h
  · omega
  · rename_i c1
    split at h
    · omega
    · rename_i c2
      simp only [Bool.not_eq_false, Bool.and_eq_true] at c1 c2
      exact ⟨c1, c2.1, c2.2⟩
theorem takeS_ok {g : Int} {was : Ti} {L : List Lm} {left : Int} {here out : Ti} {it : ByteArray × Int} (h : itE was it = 0) : takeS g was L (0, left, here, out) it =
    if 1125899906842624 - atI here it.1 - takeC g was L left here it < atI was it.1 then (9, left, here, out) else (0, left - takeC g was L left here it, setI here it.1 (atI here it.1 + takeC g was L left here it), if takeC g was L left here it = 0 then out else out ++ [(it.1, takeC g was L left here it)]) := by
  obtain ⟨h1, h2, h3⟩ := itE_ok h
  unfold takeS
  rw [if_neg (by simp), if_neg (by simp [h1]), if_neg (by simp [h2, h3])]

theorem s_call {W0 w w' : World} (hb : Below w.heap.size w w') (h : Below W0.heap.size W0 w) : Below W0.heap.size W0 w' := h.trans (hb.mono h.size)
def TakePost (g : Int) (was : Ti) (W : Ti) (L : List Lm) (w : World) (e : Ending) (w' : World) : Prop :=
  ((takeE g was W L ≠ 0 ∧ e = .returned (.tuple #[.slice none 0 0, .map none, .int .i64 (takeE g was W L)])) ∨ (takeE g was W L = 0 ∧ ∃ v b, e = .returned (.tuple #[v, .map (some b), .int .i64 0]) ∧ OwnI w' w.heap.size 43 v (takeF g was L W).2.2.2 ∧ SM w' b (vT (thenV was (takeF g was L W).2.2.1)) ∧ w.heap.size ≤ b)) ∧ Below w.heap.size w w'

set_option maxHeartbeats 8000000 in
set_option maxRecDepth 100000 in
theorem take_any (g : Int) (p : Option Nat) (was : Ti) (pw : Option Addr) (cw : Nat) (W : Ti) (pl : Option Addr) (cl : Nat) (L : List Lm) (w : World) (hnw : was.length ≤ 100000) (hnW : W.length ≤ 4611686018427387904) (hnL : L.length ≤ 4611686018427387904)
    (hzW : SzI W) (hzL : SzL L) (hp : SMo w p (vT was)) (hW : ItLs w pw W) (hL : LmLs w pl L) :
    Calls Try.prog 13 #[.int .i64 g, .map p, .slice pw W.length cw, .slice pl L.length cl] w (TakePost g was W L w) := by
  have HF := Lib.hid (fun V => Ra.fits_any g V)
  have HC := Lib.hid (byCode_any pl cl L w hnL hzL hL)
  have HI := Lib.hid hW
  have HP := Lib.hid hp
  have HZ := Lib.hid hzW
  clear hL hW hp hzW hzL
  cases hg : fitsB g
  · have hE : takeE g was W L = 2 := by unfold takeE; rw [if_pos hg]
    rw [hg] at HF
    unfold TakePost
    rw [hE]
    clear hE HC HP hg
    go_enter Try.func13, Try.ntmps13
    go_wp2_with fail
    refine (HF.out _).mono ?_
    rintro e w1 ⟨rfl, rfl⟩
    go_wp2
    refine bodyPost_ret (v := .tuple #[.slice none 0 0, .map none, .int .i64 2]) (by simp [results, Try.results13, go_sem]) rfl ⟨.inl ⟨by decide, rfl⟩, Below.refl _ _⟩
  rw [hg] at HF
  have hE1 : takeE g was W L = if chkV L ≠ 0 then chkV L else if 64 < W.length then 5 else (takeF g was L W).1 := by unfold takeE; rw [if_neg (by rw [hg]; simp)]
  by_cases hcv : chkV L = 0
  case neg =>
    rw [if_pos hcv] at hE1
    unfold TakePost
    rw [hE1]
    have HN := Lib.hid hcv
    have dn : (chkV L != 0) = true := by simpa using hcv
    clear hE1 hcv HP
    go_enter Try.func13, Try.ntmps13
    go_wp2_with fail
    refine (HF.out _).mono ?_
    rintro e w1 ⟨rfl, rfl⟩
    go_wp2_with fail
    refine (HC.out).mono ?_
    rintro e w1 ⟨hc, hb⟩
    rcases hc with ⟨-, rfl⟩ | ⟨h, -⟩
    case inr => exact absurd h HN.out
    clear HC
    go_wp2
    refine bodyPost_ret (v := .tuple #[.slice none 0 0, .map none, .int .i64 (chkV L)]) (by simp [results, Try.results13, go_sem]) rfl ⟨.inl ⟨HN.out, rfl⟩, hb⟩
  rw [if_neg (by simpa using hcv)] at hE1
  have hcf : (chkF L).1 = 0 := by
    unfold chkV at hcv
    split at hcv
    · omega
    · exact hcv
  have HCV := Lib.hid hcv
  have HCF := Lib.hid hcf
  clear hcf
  by_cases h64 : 64 < W.length
  · rw [if_pos h64] at hE1
    have i1 : (64 : Int) < (W.length : Int) := by omega
    unfold TakePost
    rw [hE1]
    clear hE1 HP
    go_enter Try.func13, Try.ntmps13
    go_wp2_with fail
    refine (HF.out _).mono ?_
    rintro e w1 ⟨rfl, rfl⟩
    go_wp2_with fail
    refine (HC.out).mono ?_
    rintro e w1 ⟨hc, hb⟩
    rcases hc with ⟨h, -⟩ | ⟨-, bl, rfl, hbl, hsm⟩
    · exact absurd hcv h
    clear HC hcv
    go_wp2
    refine bodyPost_ret (v := .tuple #[.slice none 0 0, .map none, .int .i64 5]) (by simp [results, Try.results13, go_sem]) rfl ⟨.inl ⟨by decide, rfl⟩, hb⟩
  rw [if_neg h64] at hE1
  have HE1 := Lib.hid hE1
  have i1 : ¬ (64 : Int) < (W.length : Int) := by omega
  have HB := Lib.hid (fun bl V hs => begin_any g p (vT was) bl V hs (by rw [vT_len]; unfold maxLen; omega))
  have Hlt := Lib.hid HP.out.lt
  clear hE1
  go_enter Try.func13, Try.ntmps13
  go_wp2_with fail
  refine (HF.out _).mono ?_
  rintro e w1 ⟨rfl, rfl⟩
  go_wp2_with fail
  refine (HC.out).mono ?_
  rintro e w1 ⟨hc, hb⟩
  rcases hc with ⟨h, -⟩ | ⟨-, bl, rfl, hbl, hsm⟩
  · exact absurd hcv h
  clear HC hcv
  have HP1 := Lib.hid (HP.out.below hb)
  have HB1 := Lib.hid hb
  have HSM := Lib.hid hsm
  clear hb hsm
  go_wp2_with fail
  refine (HB.out _ _ HP1.out).mono ?_
  rintro e w2 ⟨b, rfl, hm2, hb2, hk2⟩
  have HM2 := Lib.hid hm2
  have hbl2 : bl < w1.heap.size := HSM.out.lt
  have HB2 := Lib.hid (HB1.out.trans (hk2.mono HB1.out.size))
  have HP2 := Lib.hid (HP1.out.below hk2)
  have HSM2 := Lib.hid (HSM.out.below hk2)
  have hbne : bl < b := by omega
  have hbw : w.heap.size ≤ b := by have := HB1.out.size; omega
  have hbs : b < w2.heap.size := hm2.lt
  obtain ⟨W3, hW3⟩ : ∃ W3, W3 = w2.alloc (.cells #[.int .i64 (max g 0), .int .i64 (max g 0), .map p, .map (some b), .map (some bl)] 66) := ⟨_, rfl⟩
  have hk3 : Below w2.heap.size w2 W3 := by rw [hW3]; exact (Below.refl _ _).alloc (Nat.le_refl _) _
  have hz3 : W3.heap.size = w2.heap.size + 1 := by rw [hW3]; simp
  have hY3 : Yr W3 w2.heap.size (max g 0) (max g 0) p b bl := by
    rw [hW3]
    exact ⟨by rw [World.cell?_alloc_new]; rfl, by rw [World.cell?_alloc_new]; rfl, by rw [World.cell?_alloc_new]; rfl, by rw [World.cell?_alloc_new]; rfl, by rw [World.cell?_alloc_new]; rfl, by simp⟩
  have HT0 : Hid (TkInv w g p was L W w2.heap.size b bl 0 (.slice none 0 0) W3) := Lib.hid ⟨rfl, by rw [show max 0 (takeF g was L (W.take 0)).2.1 = max g 0 by show max 0 g = _; omega]; exact hY3, ⟨was, fun s => ⟨by simp [takeF, hasI], by simp [takeF, atI]⟩, HM2.out.below hk3, by omega⟩, HSM2.out.below hk3, HP2.out.below hk3, OwnI.nil _ _ _, HB2.out.trans (hk3.mono HB2.out.size), by simp [takeF]⟩
  have hgy : W3.heap.size = w2.heap.size + 1 := hz3
  clear hz3 hY3 hm2 hb2 hk2 HB HF
  go_upto_region 9 with fail
  rw [← hW3]
  clear hW3 hk3
  replace hgy := Lib.hid hgy
  have hbg : b < w2.heap.size := hbs
  generalize w2.heap.size = gy at *
  go_wp2
  clear HM2 HB2 HP2 HSM2 HP1 HB1 HSM
  go_loopw [14, 39] (fun v i wr => ∃ k : Nat, ∃ vv : Value, vv = v ∧ k ≤ W.length ∧ i = .int .i64 k ∧ Hid (TkInv w g p was L W gy b bl k vv wr)) (fun _ i _ => W.length - (RowKit.intOf i).toNat)
  case atStart => exact ⟨0, _, rfl, Nat.zero_le _, rfl, HT0⟩
  case round =>
    clear HT0
    rename World => wq
    obtain ⟨k, v, rfl, hk, rfl, HT⟩ := hrel
    by_cases hlt : k < W.length
    case neg =>
      obtain rfl : k = W.length := by omega
      obtain ⟨t1, hY, ⟨N, hN, hM, hNl⟩, hml, hmp, hO, hbel, hol⟩ := HT.out
      rw [List.take_length] at t1 hY hN hO hol
      obtain ⟨c0, c1, c2, c3, c4, f1⟩ := hY
      have hal : SM wq b (vT (thenV was (takeF g was L W).2.2.1)) := hM.alike (al_of (fun s => by
        have h1 := then_is _ was (here_uq g was L W (0, g, [], []) List.Pairwise.nil) s
        have h2 := hN s
        exact ⟨h2.1.trans h1.1.symm, h2.2.trans h1.2.symm⟩)) (then_uq _ was (UqI.of HP.out.uq)).tb
      have HR : Hid (takeE g was W L = 0 ∧ OwnI wq w.heap.size 43 v (takeF g was L W).2.2.2 ∧ SM wq b (vT (thenV was (takeF g was L W).2.2.1)) ∧ Below w.heap.size w wq) := Lib.hid ⟨by rw [HE1.out, t1], hO.mono (by omega), hal, hbel⟩
      clear hal hN hM hNl hml hmp hO hbel hol HT t1
      go_wp2
      go_quiet (fail)
      go_wp2
      exact bodyPost_ret (v := .tuple #[v, .map (some b), .int .i64 0]) (by simp [results, Try.results13, go_sem]) rfl ⟨.inr ⟨HR.out.1, v, b, rfl, (HR.out.2.1).below (below_drewN (Below.refl _ _) _), HR.out.2.2.1.below (below_drewN (Below.refl _ _) _), hbw⟩, below_drewN HR.out.2.2.2 _⟩
    case pos =>
      obtain ⟨t1, hY, ⟨N, hN, hM, hNl⟩, hml, hmp, hO, hbel, hol⟩ := HT.out
      clear HT
      have hinv := inv_at (was := was) hg HCF.out k hk t1
      have hnx := take_next hlt t1
      have hbad := fun e M h h2 => @take_bad g was L W k hlt e M h h2
      have hs := HZ.out k hlt
      obtain ⟨bw, ow, rfl, hbw9, c0, c1⟩ := ItIn.at HI.out hlt
      replace c0 := (hbel.cell (p := ⟨bw, ow + k * 2, none⟩) hbw9).trans c0
      replace c1 := (hbel.cell (p := ⟨bw, ow + k * 2 + 1, none⟩) hbw9).trans c1
      generalize W.getD k d0 = it at hnx hbad c0 c1 hs
      obtain ⟨s, c⟩ := it
      dsimp only at c0 c1 hs
      generalize takeF g was L (W.take k) = st at t1 hY hN hO hol hinv hnx hbad
      obtain ⟨er, left, here, out⟩ := st
      dsimp only at t1 hY hN hO hol hinv
      subst t1
      have i2 : (k : Int) < (W.length : Int) := by omega
      have hgyl := hY.lt
      have hbl3 := hM.lt
      have hbl4 := hml.lt
      have hpl := hmp.lt
      obtain ⟨W1, hW1⟩ : ∃ W1, W1 = wq.alloc (.cells #[.string s, .int .i64 c] 43) := ⟨_, rfl⟩
      have hk1 : Below wq.heap.size wq W1 := by rw [hW1]; exact (Below.refl _ _).alloc (Nat.le_refl _) _
      have e0 : W1.cell? ⟨wq.heap.size, 0, none⟩ = some (.string s) := by rw [hW1, World.cell?_alloc_new]; rfl
      have e1 : W1.cell? ⟨wq.heap.size, 1, none⟩ = some (.int .i64 c) := by rw [hW1, World.cell?_alloc_new]; rfl
      have hY1 := hY.below hk1
      have hM1 := hM.below hk1
      have hml1 := hml.below hk1
      have hmp1 := hmp.below hk1
      have hO1 := hO.below hk1
      have hbel1 := hbel.trans (hk1.mono hbel.size)
      have hgne : wq.heap.size ≠ gy ∧ wq.heap.size ≠ b := ⟨by omega, by omega⟩
      have HK := Lib.hid (check_any (max g 0) (max 0 left) p (some b) (some bl) was s c W1 hs hmp1)
      clear hY hM hml hmp hO hbel hk1 hgyl hbl3 hbl4
      go_upto_region 13 with fail
      rw [← hW1]
      clear hW1 c0 c1
      generalize hg16 : wq.heap.size = g16 at e0 e1 hgne hpl ⊢
      obtain ⟨y0, y1, y2, y3, y4, yf⟩ := hY1
      by_cases hE : itE was (s, c) = 0
      case neg =>
        have HE := Lib.hid (hbad (itE was (s, c)) _ (takeS_it hE) hE)
        have HNE := Lib.hid hE
        have dn : (itE was (s, c) != 0) = true := by simpa using hE
        have HB1 := Lib.hid hbel1
        clear hbad hnx hE hinv hN hM1 hml1 hmp1 hO1 hbel1
        generalize itE was (s, c) = E at HK HE HNE dn
        go_wp2_with fail
        refine (HK.out).mono ?_
        rintro e w4 ⟨rfl, hb4⟩
        go_wp2
        exact bodyPost_ret (v := .tuple #[.slice none 0 0, .map none, .int .i64 E]) (by simp [results, Try.results13, go_sem]) rfl ⟨.inl (by rw [HE1.out, HE.out]; exact ⟨HNE.out, rfl⟩), HB1.out.trans (hb4.mono HB1.out.size)⟩
      case pos =>
        obtain ⟨n1, n2, n3⟩ := itE_ok hE
        have HS := Lib.hid (takeS_ok (g := g) (L := L) (left := left) (here := here) (out := out) hE)
        rw [hE] at HK
        dsimp only at n1 n2 n3
        have hsz := name_size n1
        obtain ⟨q0, q1⟩ := fit0_iff.1 n2
        obtain ⟨r0, r1⟩ := fit0_iff.1 n3
        obtain ⟨C0, C1⟩ := takeC_bd (g := g) (was := was) (L := L) (left := left) (here := here) (it := (s, c))
        have hroom := fun v h1 h2 => take_room (v := v) hinv HCF.out q0 (hN s).2 h1 h2
        obtain ⟨hlg, hin⟩ := hinv
        obtain ⟨j0, j1, -, j3⟩ := hin s
        have hnt := (hN s).2
        have hgf := fitsB_iff.1 hg
        have hntb : atI was s + atI here s ≤ 1125899906842624 := by
          cases hh : hasI here s
          · rw [atI_not hh]; omega
          · exact (j3 hh).2
        have HR : Hid (∀ V, Below W1.heap.size W1 V → Calls Try.prog 27 #[.agg #[.int .i64 (max g 0), .int .i64 (max 0 left), .map p, .map (some b), .map (some bl)], .string s] V fun e w' => (∃ v, e = .returned (.int .i64 v) ∧ min c v = takeC g was L left here (s, c)) ∧ Below V.heap.size V w') := Lib.hid (fun V hV => by
          refine (room_any (max g 0) (max 0 left) p b bl was N L s V hs (hmp1.below hV) (hM1.below hV) (hml1.below hV) HCF.out (by omega) (by omega) (by omega) (by omega) r0 r1 (by omega) (by omega)).mono ?_
          rintro e w' ⟨⟨v, rfl, h1, h2⟩, hb⟩
          exact ⟨⟨v, rfl, hroom v h1 h2⟩, hb⟩)
        dsimp only at HS C1
        generalize hC : takeC g was L left here (s, c) = C at *
        have HLs : Hid (∀ v V, min c v = C → Calls Try.prog 26 #[.int .i64 c, .int .i64 v] V fun e w' => e = .returned (.int .i64 C) ∧ V = w') := Lib.hid (fun v V h => by rw [← h]; exact least_any c v V)
        obtain ⟨lp, hlp⟩ : ∃ lp, lp = max 0 left := ⟨_, rfl⟩
        obtain ⟨gp, hgp⟩ : ∃ gp, gp = max g 0 := ⟨_, rfl⟩
        rw [← hlp, ← hgp] at HK HR
        rw [← hgp] at y0
        rw [← hlp] at y1
        obtain ⟨nt, hntv⟩ : ∃ nt, nt = atI N s := ⟨_, rfl⟩
        have b0 : 0 ≤ lp := by omega
        have b1 : lp ≤ 1125899906842624 := by omega
        have b2 : C ≤ lp := by omega
        have b3 : 0 ≤ nt := by omega
        have b4 : nt ≤ 1125899906842624 := by omega
        have hlpC : max 0 (left - C) = lp - C := by omega
        have hov : (1125899906842624 - atI here s - C < atI was s) ↔ 1125899906842624 < nt + C := by omega
        have HGP := Lib.hid hgp
        have HX := Lib.hid (And.intro hlpC (And.intro hov (And.intro hnt hntv)))
        have HY1 := Lib.hid (show Yr W1 gy gp lp p b bl from ⟨y0, y1, y2, y3, y4, yf⟩)
        have HM1 := Lib.hid hM1
        have HML1 := Lib.hid hml1
        have HMP1 := Lib.hid hmp1
        have HO1 := Lib.hid hO1
        have HB1 := Lib.hid hbel1
        have HN := Lib.hid hN
        have HNX := Lib.hid hnx
        have HBAD := Lib.hid hbad
        have HGL := Lib.hid hgne
        clear hlpC hov hroom hlg hin j0 j1 j3 hnt hgf hntb hlp hgp hntv hM1 hml1 hmp1 hO1 hbel1 hC hN hnx hbad hE n1 n2 n3 q1 r0 r1 C1 hgne
        go_upto_region 16 with (first | (go_at_call 25; refine (HK.out).mono ?_; rintro e w4 ⟨rfl, hb4⟩))
        have KP : Hid (∀ w', Below W1.heap.size W1 w' → (((w'.cell? ⟨gy, 0, none⟩ = some (.int .i64 gp) ∧ w'.cell? ⟨gy, 1, none⟩ = some (.int .i64 lp) ∧ w'.cell? ⟨gy, 2, none⟩ = some (.map p) ∧ w'.cell? ⟨gy, 3, none⟩ = some (.map (some b)) ∧ w'.cell? ⟨gy, 4, none⟩ = some (.map (some bl))) ∧ w'.cell? ⟨g16, 0, none⟩ = some (.string s) ∧ w'.cell? ⟨g16, 1, none⟩ = some (.int .i64 c)) ∧ Below W1.heap.size W1 w')) := Lib.hid (fun w' h => by
          obtain ⟨d0, d1, d2, d3, d4, -⟩ := HY1.out.below h
          exact ⟨⟨⟨d0, d1, d2, d3, d4⟩, (h.cell (p := ⟨g16, 0, none⟩) (World.block_lt_of_cell? _ _ e0)).trans e0, (h.cell (p := ⟨g16, 1, none⟩) (World.block_lt_of_cell? _ _ e1)).trans e1⟩, h⟩)
        have hb4d := hb4.drew
        clear y0 y1 y2 y3 y4 e0 e1 yf HK
        go_region_held3 (fun w' => (((w'.cell? ⟨gy, 0, none⟩ = some (.int .i64 gp) ∧ w'.cell? ⟨gy, 1, none⟩ = some (.int .i64 lp) ∧ w'.cell? ⟨gy, 2, none⟩ = some (.map p) ∧ w'.cell? ⟨gy, 3, none⟩ = some (.map (some b)) ∧ w'.cell? ⟨gy, 4, none⟩ = some (.map (some bl))) ∧ w'.cell? ⟨g16, 0, none⟩ = some (.string s) ∧ w'.cell? ⟨g16, 1, none⟩ = some (.int .i64 c)) ∧ Below W1.heap.size W1 w'))
          (first | with_reducible exact KP.out _ hb4d | with_reducible exact KP.out _ (by assumption))
          (first | (go_at_call 27; refine (HR.out _ (by assumption)).mono ?_; rintro e w5 ⟨⟨v5, rfl, hv5⟩, hb5⟩; have hk5 : Below W1.heap.size W1 w5 := s_call hb5 (by assumption)) | (go_at_call 26; refine (HLs.out _ _ (by assumption)).mono ?_; rintro e w6 ⟨rfl, rfl⟩))
        rename_i hHeld
        rename World => w5
        obtain ⟨⟨⟨d0, d1, d2, d3, d4⟩, m0, m1⟩, hb5⟩ := hHeld
        have HY5 := Lib.hid (HY1.out.below hb5)
        have HM5 := Lib.hid (HM1.out.below hb5)
        have HML5 := Lib.hid (HML1.out.below hb5)
        have HMP5 := Lib.hid (HMP1.out.below hb5)
        have HO5 := Lib.hid (HO1.out.below hb5)
        have HB5 := Lib.hid (HB1.out.trans (hb5.mono HB1.out.size))
        have f1 := HY5.out.2.2.2.2.2
        clear hb4 hb4d KP HR HLs HY1 HM1 HML1 HMP1 HO1 HB1 hb5
        go_upto_region 18 with fail
        obtain ⟨w6, hw6⟩ : ∃ w6, w6 = w5.setCell ⟨gy, 1, none⟩ (.int .i64 (lp - C)) := ⟨_, rfl⟩
        have HY6 := Lib.hid (show Yr w6 gy gp (lp - C) p b bl by rw [hw6]; exact HY5.out.set _)
        have hbk : ∀ x, x ≠ gy → w6.heap[x]? = w5.heap[x]? := fun x hx => by rw [hw6, Below.heap_setCell _ _ _ _ (by show x ≠ gy; exact hx)]
        have hsz6 : w6.heap.size = w5.heap.size := by rw [hw6]; simp
        have hm6 : SM w6 b (vT N) := HM5.out.block (hbk b (by omega))
        have HML6 := Lib.hid (HML5.out.block (hbk bl (by omega)))
        have HMP6 : Hid (SMo w6 p (vT was)) := Lib.hid (by
          rcases HMP5.out with h | ⟨x, e, h⟩
          · exact .inl h
          · exact .inr ⟨x, e, h.block (hbk x (by have := Hlt.out x e; omega))⟩)
        have HO6 : Hid (OwnI w6 (gy + 1) 43 v out) := Lib.hid (by rw [hw6]; exact HO5.out.set (by omega) _)
        have HB6 := Lib.hid (show Below w.heap.size w w6 by rw [hw6]; exact HB5.out.setCell (by show w.heap.size ≤ gy; omega) _)
        have n0 := (World.cell?_of_block (w := w5) (w' := w6) (a := ⟨g16, 0, none⟩) (hbk g16 HGL.out.1)).trans m0
        have n1 := (World.cell?_of_block (w := w5) (w' := w6) (a := ⟨g16, 1, none⟩) (hbk g16 HGL.out.1)).trans m1
        rw [← hw6]
        clear hw6 d0 d1 d2 d3 d4 m0 m1 f1 HY5 HM5 HML5 HMP5 HO5 HB5
        have hlk6 : (Instr.lookup 30 (.map (some b)) (.string s) false).run Try.prog w6 = .ok (.int .i64 nt) w6 := by
          have := hm6.look Try.underlying30 (zCt w6) hs
          rw [vT_lk] at this
          rw [HX.out.2.2.2]; exact this
        obtain ⟨w7, hst7, hm7, hg7⟩ := hm6.store Try.underlying30 (by rw [vT_len]; unfold maxLen; omega) hs (.int .i64 (nt + C))
        rw [← vT_set] at hm7
        have hlk7 : (Instr.lookup 30 (.map (some b)) (.string s) false).run Try.prog w7 = .ok (.int .i64 (nt + C)) w7 := by
          have := hm7.look Try.underlying30 (zCt w7) hs
          rw [vT_lk, atI_set, if_pos rfl] at this
          exact this
        have hbk7 : ∀ x, x < w6.heap.size → x ≠ b → w7.heap[x]? = w6.heap[x]? := fun x hx hne => hg7.block x hx (by intro e; injection e with e; exact hne e)
        have HM7 := Lib.hid hm7
        have HY7 := Lib.hid (HY6.out.block (hbk7 gy HY6.out.lt (by omega)))
        have HML7 := Lib.hid (HML6.out.block (hbk7 bl HML6.out.lt (by omega)))
        have HMP7 : Hid (SMo w7 p (vT was)) := Lib.hid (by
          rcases HMP6.out with h | ⟨x, e, h⟩
          · exact .inl h
          · exact .inr ⟨x, e, h.block (hbk7 x h.lt (by have := Hlt.out x e; omega))⟩)
        have HO7 : Hid (OwnI w7 (gy + 1) 43 v out) := Lib.hid (HO6.out.grown hg7 (.inr (HO6.out.ne (by omega))))
        have HB7 := Lib.hid (HB6.out.grown hg7 HB6.out.size (fun j hj => by injection hj with hj; omega))
        have l16 : g16 < w6.heap.size := World.block_lt_of_cell? _ _ n0
        have o0 := (World.cell?_of_block (w := w6) (w' := w7) (a := ⟨g16, 0, none⟩) (hbk7 g16 l16 HGL.out.2)).trans n0
        have y3 := HY6.out.2.2.2.1
        have z3 := HY7.out.2.2.2.1
        have hgs7 : gy + 1 ≤ w7.heap.size := HY7.out.lt
        clear hm6 hm7 hg7 hbk hbk7 hsz6 HML6 HMP6 HO6 HB6 HY6
        by_cases hov : 1125899906842624 < nt + C
        · have HE : Hid ((takeF g was L W).1 = 9) := Lib.hid (HBAD.out 9 (left, here, out) (by rw [HS.out, if_pos (HX.out.2.1.2 hov)]) (by omega))
          have dv : decide (1125899906842624 < nt + C) = true := decide_eq_true hov
          clear HBAD HNX HS HN
          go_wp2
          exact bodyPost_ret (v := .tuple #[.slice none 0 0, .map none, .int .i64 9]) (by simp [results, Try.results13, go_sem]) rfl ⟨.inl (by rw [HE1.out, HE.out]; exact ⟨by decide, rfl⟩), HB7.out⟩
        · have HE : Hid (takeF g was L (W.take (k + 1)) = (0, left - C, setI here s (atI here s + C), if C = 0 then out else out ++ [(s, C)])) := Lib.hid (by
            rw [HNX.out, HS.out, if_neg (fun h => hov (HX.out.2.1.1 h))])
          have dv : decide (1125899906842624 < nt + C) = false := decide_eq_false hov
          have HWI := Lib.hid (withItem_any (gy + 1) w7 v out s C w7 (by omega) HO7.out (Below.refl _ _) hgs7)
          clear HBAD HNX HS
          go_wp2_with fail
          refine (HWI.out).mono ?_
          rintro e w8 ⟨v8, rfl, ho8, hb8, hg8⟩
          have HT8 : Hid (TkInv w g (p) was L W gy b bl (k + 1) v8 w8) := Lib.hid (by
            have hk8 : ∀ x, x < gy + 1 → w8.heap[x]? = w7.heap[x]? := fun x hx => hb8.block x hx
            refine ⟨by rw [HE.out], ?_, ⟨setI N s (nt + C), fun t => ?_, HM7.out.block (hk8 b (by omega)), by have := setI_len N s (nt + C); omega⟩, HML7.out.block (hk8 bl (by omega)), ?_, ?_, HB7.out.trans (hb8.mono (by omega)), ?_⟩
            · rw [HE.out, HX.out.1, ← HGP.out]; exact HY7.out.block (hk8 gy (by omega))
            · rw [HE.out]
              have h1 := HN.out t
              have h2 := HX.out.2.2
              refine ⟨by rw [hasI_set, hasI_set, h1.1, Bool.or_assoc], ?_⟩
              rw [atI_set, atI_set]
              by_cases e : t = s
              · subst e; rw [if_pos rfl, if_pos rfl]; omega
              · rw [if_neg e, if_neg e]; exact h1.2
            · rcases HMP7.out with h | ⟨x, e, h⟩
              · exact .inl h
              · exact .inr ⟨x, e, h.block (hk8 x (by have := Hlt.out x e; omega))⟩
            · rw [HE.out]; exact ho8
            · rw [HE.out]
              show (if C = 0 then out else out ++ [(s, C)]).length ≤ k + 1
              split
              · omega
              · simp; omega)
          clear ho8 hb8 hg8 HM7 HY7 HML7 HMP7 HO7 HB7 HWI HN
          go_wp2
          exact ⟨⟨k + 1, v8, rfl, by omega, by go_num, HT8⟩, by simp [RowKit.intOf]; omega⟩

end Go.Proofs.Ytaeldoipflcknaa
