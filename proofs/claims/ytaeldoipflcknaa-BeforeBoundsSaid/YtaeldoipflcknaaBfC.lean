/-
  What is proved: the contracts of before's byCode and of the document's own Check. Conditions: limits lie in memory as the contract says.
-/
import Derived.Test.YtaeldoipflcknaaBfB
import Derived.Test.YtaeldoipflcknaaShelf
namespace Go.Proofs.Ytaeldoipflcknaa
open Go Go.RowKit Go.Lib Go.Proofs
set_option linter.unusedVariables false

/-- Limits that lie where a slice says. -/
def LmLs (w : World) (p : Option Addr) (L : List Lm) : Prop := L.length = 0 ∨ ∃ b o, p = some ⟨b, o, none⟩ ∧ b < w.heap.size ∧ ∀ j, j < L.length → w.cell? ⟨b, o + j * 3, none⟩ = some (.string (L.getD j dL).1) ∧ w.cell? ⟨b, o + j * 3 + 1, none⟩ = some (.int .i64 (L.getD j dL).2.1) ∧ w.cell? ⟨b, o + j * 3 + 2, none⟩ = some (.int .i64 (L.getD j dL).2.2)
theorem LmLs.below {w w' : World} {p : Option Addr} {L : List Lm} (h : LmLs w p L) (hb : Below w.heap.size w w') : LmLs w' p L := by
  rcases h with h | ⟨b, o, hp, hl, hc⟩
  · exact .inl h
  · exact .inr ⟨b, o, hp, Nat.lt_of_lt_of_le hl hb.size, fun j hj => ⟨(hb.cell (p := ⟨b, o + j * 3, none⟩) hl).trans (hc j hj).1, (hb.cell (p := ⟨b, o + j * 3 + 1, none⟩) hl).trans (hc j hj).2.1, (hb.cell (p := ⟨b, o + j * 3 + 2, none⟩) hl).trans (hc j hj).2.2⟩⟩
theorem LmLs.kb {w w' : World} {p : Option Addr} {L : List Lm} {B : Nat} (h : LmLs w p L) (hB : w.heap.size ≤ B) (hb : Below B w w') : LmLs w' p L := h.below (hb.mono hB)
theorem LmLs.at {w : World} {p : Option Addr} {L : List Lm} (h : LmLs w p L) {j : Nat} (hj : j < L.length) : ∃ b o, p = some ⟨b, o, none⟩ ∧ b < w.heap.size ∧ w.cell? ⟨b, o + j * 3, none⟩ = some (.string (L.getD j dL).1) ∧ w.cell? ⟨b, o + j * 3 + 1, none⟩ = some (.int .i64 (L.getD j dL).2.1) ∧ w.cell? ⟨b, o + j * 3 + 2, none⟩ = some (.int .i64 (L.getD j dL).2.2) := by
  rcases h with h | ⟨b, o, hp, hl, hc⟩
  · omega
  · exact ⟨b, o, hp, hl, hc j hj⟩
theorem zLm (w : World) : (zeroValue 47).run Try.prog w = .ok (lmV dL) w := by kernel_rfl
theorem zCt (w : World) : (zeroValue 22).run Try.prog w = .ok (.int .i64 0) w := by kernel_rfl
/-- Texts that are no longer than a text may be. -/
def SzL (L : List Lm) : Prop := ∀ k, k < L.length → (L.getD k dL).1.size ≤ maxLen
def SzI (L : Ti) : Prop := ∀ k, k < L.length → (L.getD k d0).1.size ≤ maxLen
theorem sz_big {n : Nat} (h : n ≤ maxLen) : n ≤ 9223372036854775807 := by unfold maxLen at h; omega
/-- What is read of the map at a code that stands there, or not. -/
theorem lk_shape {L : List Lm} (s : ByteArray) : ∃ l : Lm, lkT (lmT L) s (lmV dL) = lmV l := by
  induction L with
  | nil => exact ⟨dL, rfl⟩
  | cons p r ih =>
    unfold lmT
    rw [List.map_cons, lkT]
    split
    · exact ⟨p, rfl⟩
    · exact ih
theorem chk_next {L : List Lm} {k : Nat} (hk : k < L.length) (h : chkF (L.take k) = (0, L.take k)) :
    (nameB (L.getD k dL).1 = false ∧ (chkF L).1 = 12) ∨ (nameB (L.getD k dL).1 = true ∧ hasL (L.take k) (L.getD k dL).1 = true ∧ (chkF L).1 = 7) ∨
    (nameB (L.getD k dL).1 = true ∧ hasL (L.take k) (L.getD k dL).1 = false ∧ okLm (L.getD k dL) = false ∧ (chkF L).1 = 2) ∨
    (nameB (L.getD k dL).1 = true ∧ hasL (L.take k) (L.getD k dL).1 = false ∧ okLm (L.getD k dL) = true ∧ chkF (L.take (k + 1)) = (0, L.take (k + 1))) := by
  have hb := fun e M h1' h2 => @chk_bad L k hk e M (by rw [h]; exact h1') h2
  have hs : chkF (L.take (k + 1)) = chkS (0, L.take k) (L.getD k dL) := by
    unfold chkF at h ⊢
    rw [fold_at chkS _ L dL hk, h]
  rw [take_at L dL hk] at hs ⊢
  generalize L.getD k dL = x at hb hs ⊢
  unfold chkS at hb hs
  rw [if_neg (by simp)] at hb hs
  cases h1 : nameB x.1
  · rw [if_pos h1] at hb; exact .inl ⟨rfl, hb 12 _ rfl (by omega)⟩
  · rw [if_neg (by simp [h1])] at hb hs
    cases h2 : hasL (L.take k) x.1
    · rw [if_neg (by simp [h2])] at hb hs
      cases h3 : okLm x
      · rw [if_pos h3] at hb; exact .inr (.inr (.inl ⟨rfl, rfl, rfl, hb 2 _ rfl (by omega)⟩))
      · rw [if_neg (by simp [h3])] at hs; exact .inr (.inr (.inr ⟨rfl, rfl, rfl, hs⟩))
    · rw [if_pos h2] at hb; exact .inr (.inl ⟨rfl, rfl, hb 7 _ rfl (by omega)⟩)
theorem ok_ways (m y : Int) : (okLm (⟨#[]⟩, m, y) = true ∧ decide (m < 0) = false ∧ decide (1000000 < m) = false ∧ fit0 y = true) ∨ (okLm (⟨#[]⟩, m, y) = false ∧ decide (m < 0) = true) ∨ (okLm (⟨#[]⟩, m, y) = false ∧ decide (m < 0) = false ∧ decide (1000000 < m) = true) ∨ (okLm (⟨#[]⟩, m, y) = false ∧ decide (m < 0) = false ∧ decide (1000000 < m) = false ∧ fit0 y = false) := by
  simp only [okLm, partB, Bool.and_eq_true, Bool.and_eq_false_iff, decide_eq_true_eq, decide_eq_false_iff_not]
  cases fit0 y <;> simp <;> omega

/-- What byCode leaves. -/
def ByPost (L : List Lm) (w : World) (e : Ending) (w' : World) : Prop :=
  ((chkV L ≠ 0 ∧ e = .returned (.tuple #[.map none, .int .i64 (chkV L)])) ∨ (chkV L = 0 ∧ ∃ b, e = .returned (.tuple #[.map (some b), .int .i64 0]) ∧ w.heap.size ≤ b ∧ SM w' b (lmT L))) ∧ Below w.heap.size w w'
set_option maxHeartbeats 4000000 in
set_option maxRecDepth 100000 in
theorem byCode_any (p : Option Addr) (cp : Nat) (L : List Lm) (w : World) (hn : L.length ≤ 4611686018427387904) (hz : SzL L) (h : LmLs w p L) :
    Calls Try.prog 23 #[.slice p L.length cp] w (ByPost L w) := by
  have HL := Lib.hid h
  have HZ := Lib.hid hz
  clear h hz
  by_cases h64 : 64 < L.length
  · have i1 : (64 : Int) < (L.length : Int) := by omega
    have hv : chkV L = 5 := by unfold chkV; rw [if_pos h64]
    unfold ByPost
    rw [hv]
    clear hv
    go_enter Try.func23, Try.ntmps23
    go_wp2
    go_ret2
    exact ⟨.inl ⟨by decide, rfl⟩, Below.refl _ _⟩
  · have i1 : ¬ (64 : Int) < (L.length : Int) := by omega
    have hv : chkV L = (chkF L).1 := by unfold chkV; rw [if_neg h64]
    have HV := Lib.hid hv
    clear hv
    have hM := SM.made w
    have hmm := @run_makeMap Try.prog
    have hB0 := (Below.refl w.heap.size w).alloc (Nat.le_refl _) (.map #[] 0)
    go_enter Try.func23, Try.ntmps23
    go_wp2
    clear hmm
    generalize w.alloc (.map #[] 0) = W0 at hM hB0 ⊢
    go_loopw [15] (fun i wr => ∃ k : Nat, k ≤ L.length ∧ i = .int .i64 k ∧ Hid (chkF (L.take k) = (0, L.take k)) ∧ Hid (SM wr w.heap.size (lmT (L.take k))) ∧ Hid (Below w.heap.size w wr)) (fun i _ => L.length - (RowKit.intOf i).toNat)
    case atStart => exact ⟨0, Nat.zero_le _, rfl, Lib.hid rfl, Lib.hid hM, Lib.hid hB0⟩
    case round =>
      clear hM hB0
      obtain ⟨k, hk, rfl, HC, HM, HB⟩ := hrel
      by_cases hlt : k < L.length
      · obtain ⟨b, o, rfl, hb, c0, c1, c2⟩ := LmLs.at HL.out hlt
        replace c0 := (HB.out.cell (p := ⟨b, o + k * 3, none⟩) hb).trans c0
        replace c1 := (HB.out.cell (p := ⟨b, o + k * 3 + 1, none⟩) hb).trans c1
        replace c2 := (HB.out.cell (p := ⟨b, o + k * 3 + 2, none⟩) hb).trans c2
        have hs := HZ.out k hlt
        have HN := Lib.hid (chk_next hlt HC.out)
        have HT := Lib.hid (lmT_at hlt)
        generalize L.getD k dL = x at c0 c1 c2 hs HN HT
        obtain ⟨s, m, y⟩ := x
        dsimp only at c0 c1 c2 hs HN HT
        have i2 : (k : Int) < (L.length : Int) := by omega
        have HI := Lib.hid (fun W => isName_max s (sz_big hs) W)
        rw [show nameL s.data.toList = nameB s from rfl] at HI
        have HA := Lib.hid (fun W => amount_any y W)
        have HW := Lib.hid (ok_ways m y)
        rw [show okLm (⟨#[]⟩, m, y) = okLm (s, m, y) from rfl] at HW
        obtain ⟨l0, hl0⟩ := lk_shape (L := L.take k) s
        obtain ⟨l1, l2, l3⟩ := l0
        have hlt0 := HM.out.lt
        have HLK : Hid (∀ W, W.heap[w.heap.size]? = wr.heap[w.heap.size]? → (Instr.lookup 62 (.map (some w.heap.size)) (.string s) true).run Try.prog W = .ok (.tuple #[.agg #[.string l1, .int .i64 l2, .int .i64 l3], .bool (hasL (L.take k) s)]) W) := Lib.hid (fun W hW => by
          have := (HM.out.block hW).look_ok Try.underlying62 (zLm W) hs
          rw [hl0, lmT_has] at this
          exact this)
        obtain ⟨W1, hW1⟩ : ∃ W1, W1 = wr.alloc (.cells #[.string s, .int .i64 m, .int .i64 y] 47) := ⟨_, rfl⟩
        have hk1 : Below wr.heap.size wr W1 := by rw [hW1]; exact (Below.refl wr.heap.size wr).alloc (Nat.le_refl _) _
        have e0 : W1.cell? ⟨wr.heap.size, 0, none⟩ = some (.string s) := by rw [hW1, World.cell?_alloc_new]; rfl
        have e1 : W1.cell? ⟨wr.heap.size, 1, none⟩ = some (.int .i64 m) := by rw [hW1, World.cell?_alloc_new]; rfl
        have e2 : W1.cell? ⟨wr.heap.size, 2, none⟩ = some (.int .i64 y) := by rw [hW1, World.cell?_alloc_new]; rfl
        have hlk1 := HLK.out W1 (hk1.block _ hlt0)
        have hsz : wr.heap.size < W1.heap.size := World.block_lt_of_cell? _ _ e0
        have HB1 := Lib.hid (HB.out.trans (hk1.mono HB.out.size))
        clear hl0
        go_upto_region 7 with fail
        rw [← hW1]
        clear hW1 c0 c1 c2
        rcases HN.out with ⟨a1, a2⟩ | ⟨a1, a2, a3⟩ | ⟨a1, a2, a3, a4⟩ | ⟨a1, a2, a3, a4⟩
        · rw [a1] at HI
          have HE := Lib.hid a2
          clear HN a1 a2 hlk1
          go_wp2_with (first | (go_at_call 35; refine (HI.out _).mono ?_; rintro e w1 ⟨rfl, rfl⟩))
          go_ret2
          exact ⟨.inl ⟨by rw [HV.out, HE.out]; decide, by rw [HV.out, HE.out]; rfl⟩, HB1.out⟩
        · rw [a1] at HI
          rw [a2] at hlk1
          have HE := Lib.hid a3
          clear HN a1 a2 a3
          go_wp2_with (first | (go_at_call 35; refine (HI.out _).mono ?_; rintro e w1 ⟨rfl, rfl⟩))
          go_ret2
          exact ⟨.inl ⟨by rw [HV.out, HE.out]; decide, by rw [HV.out, HE.out]; rfl⟩, HB1.out.alloc HB1.out.size _⟩
        · rw [a1] at HI
          rw [a2] at hlk1
          have HE := Lib.hid a4
          have ha3 := a3
          clear HN a1 a2 a4
          rcases HW.out with ⟨o, d1, d2, d3⟩ | ⟨o, d1⟩ | ⟨o, d1, d2⟩ | ⟨o, d1, d2, d3⟩
          · rw [o] at ha3; cases ha3
          all_goals
            clear ha3 o HW
            try rw [d3] at HA
            go_wp2_with (first | (go_at_call 35; refine (HI.out _).mono ?_; rintro e w1 ⟨rfl, rfl⟩) | (go_at_call 36; refine (HA.out _).mono ?_; rintro e w1 ⟨rfl, rfl⟩))
            go_ret2
            exact ⟨.inl ⟨by rw [HV.out, HE.out]; decide, by rw [HV.out, HE.out]; rfl⟩, HB1.out.alloc HB1.out.size _⟩
        · rw [a1] at HI
          rw [a2] at hlk1
          have HE := Lib.hid a4
          have ha3 := a3
          have HT2 := Lib.hid (HT.out a2)
          clear HN a1 a2 a4
          rcases HW.out with ⟨o, d1, d2, d3⟩ | ⟨o, d1⟩ | ⟨o, d1, d2⟩ | ⟨o, d1, d2, d3⟩
          rotate_left
          all_goals first | (rw [o] at ha3; cases ha3; done) | skip
          clear ha3 o HW
          rw [d3] at HA
          have hk2 := (Below.refl W1.heap.size W1).alloc (Nat.le_refl _) (.cells #[.string l1, .int .i64 l2, .int .i64 l3] 47)
          have hM2 : SM (W1.alloc (.cells #[.string l1, .int .i64 l2, .int .i64 l3] 47)) w.heap.size (lmT (L.take k)) := (HM.out.below hk1).below hk2
          have hlen : (lmT (L.take k)).length < maxLen := by unfold lmT maxLen; simp; omega
          obtain ⟨w9, hrun, hM9, hg9⟩ := hM2.store Try.underlying62 hlen hs (lmV (s, m, y))
          rw [HT2.out] at hM9
          have HM9 := Lib.hid hM9
          have HB9 := Lib.hid ((HB1.out.alloc HB1.out.size _).grown hg9 (by have := HB1.out.size; simp; omega) (fun j hj => by injection hj with hj; omega))
          clear hM2 hM9 hg9 HLK
          have hrun' : (Instr.mapUpdate 62 (.map (some w.heap.size)) (.string s) (.agg #[.string s, .int .i64 m, .int .i64 y])).run Try.prog (W1.alloc (.cells #[.string l1, .int .i64 l2, .int .i64 l3] 47)) = .ok () w9 := hrun
          clear hrun
          go_wp2_with (first | (go_at_call 35; refine (HI.out _).mono ?_; rintro e w1 ⟨rfl, rfl⟩) | (go_at_call 36; refine (HA.out _).mono ?_; rintro e w1 ⟨rfl, rfl⟩))
          exact ⟨⟨k + 1, by omega, by go_num, HE, HM9, HB9⟩, by simp [RowKit.intOf]; omega⟩
      · obtain rfl : k = L.length := by omega
        have hc := HC.out
        rw [List.take_length] at hc
        have HE : Hid (chkV L = 0) := Lib.hid (by rw [HV.out, hc])
        have HM2 := Lib.hid (show SM wr w.heap.size (lmT L) by have := HM.out; rwa [List.take_length] at this)
        clear hc HC HM
        go_wp2
        go_ret2
        exact ⟨.inr ⟨HE.out, _, rfl, Nat.le_refl _, HM2.out⟩, HB.out⟩

end Go.Proofs.Ytaeldoipflcknaa
