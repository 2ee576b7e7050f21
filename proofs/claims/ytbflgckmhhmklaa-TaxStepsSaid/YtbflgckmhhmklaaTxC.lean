/-
  What is proved: the contract of band.holds and of the iterator that it hands back: what each band holds. Conditions: the table is right; the number of the period and the amount are not far from 0.
-/
import Derived.Test.YtbflgckmhhmklaaTxB
import Derived.RangeFuncNested
import Derived.RangeFuncBound
import Derived.RangeFuncCalls
import Derived.RangeFuncLeaves
import Derived.RangeFuncFrom
import Derived.Shelf.Abstract
import Derived.Shelf.RegionOpen
import Derived.OwnWalkIn
import Derived.TacticsInMore
import Derived.LoopNIn
import Derived.LoopIn
import Derived.Sort.CutIn
import Derived.Sort.QuietIn
namespace Go.Proofs.Ytbflgckmhhmklaa
open Go Go.RowKit Go.Shelf Go.Proofs
set_option linter.unusedVariables false

attribute [local go_sem] Oper.semAt_some

/-- What has come when k rounds are over. -/
def upto {α : Type} (f : Nat → α) (k : Nat) : List α := (List.range k).map f
theorem upto_succ {α : Type} (f : Nat → α) (k : Nat) : upto f (k + 1) = upto f k ++ [f k] := by simp [upto, List.range_succ]
theorem upto_length {α : Type} (f : Nat → α) (k : Nat) : (upto f k).length = k := by simp [upto]
/-- A rate, and what it holds of. -/
abbrev Pr := { p : Int × Int // (0 ≤ p.1 ∧ p.1 ≤ 1000000) ∧ 0 ≤ p.2 ∧ p.2 ≤ 2305843009213693952 }
/-- A band's rate, and what it holds. -/
def pairV (f : Nat → Bd) (n : Nat) (x idx : Int) (j : Nat) : Pr :=
  if h : (0 ≤ (f j).2 ∧ (f j).2 ≤ 1000000) ∧ 0 ≤ heldV f n x idx j ∧ heldV f n x idx j ≤ 2305843009213693952 then ⟨((f j).2, heldV f n x idx j), h⟩ else ⟨(0, 0), by omega⟩
theorem pairV_is {f : Nat → Bd} {n : Nat} {x idx : Int} {j : Nat} (h : (0 ≤ (f j).2 ∧ (f j).2 ≤ 1000000) ∧ 0 ≤ heldV f n x idx j ∧ heldV f n x idx j ≤ 2305843009213693952) : pairV f n x idx j = ⟨((f j).2, heldV f n x idx j), h⟩ := by
  unfold pairV; rw [dif_pos h]
abbrev encs (p : Pr) : Array Value := #[.int .i64 p.1.1, .int .i64 p.1.2]
theorem grown_of {W W' : World} (hb : Below W.heap.size W W') : W.grownBy W' none := ⟨hb.os, hb.tape, hb.output, hb.size, fun i hi _ => hb.block i hi⟩
theorem abide {β : Type} {B : Nat} {J : β → World → Prop} (h : AbidesFrom B J) {s : β} {W W' : World} (hs : J s W) (hb : Below W.heap.size W W') : J s W' :=
  h s W W' none hs (grown_of hb) (fun r e => by cases e)
theorem below_drewN {B : Nat} {w w' : World} (h : Below B w w') (k : Nat) : Below B w (w'.drewN k) := ⟨h.os, h.tape, h.output, h.size, h.block⟩

theorem idx_bd {a idx : Int} (h0 : 0 ≤ a) (h1 : a ≤ 1125899906842624) (i0 : 1 ≤ idx) (i1 : idx ≤ 400) : 0 ≤ a * idx ∧ a * idx ≤ 450359962737049600 := by
  have e1 : a * idx ≤ 1125899906842624 * idx := Int.mul_le_mul_of_nonneg_right h1 (by omega)
  exact ⟨Int.mul_nonneg h0 (by omega), by omega⟩

/-- The cells of some blocks are kept. -/
def Kp (S : Nat → Prop) (A B : World) : Prop := ∀ q o v, S q → A.cell? ⟨q, o, none⟩ = some v → B.cell? ⟨q, o, none⟩ = some v
theorem Kp.of {S : Nat → Prop} {A B : World} (h : Below A.heap.size A B) : Kp S A B := fun q o v _ hv => (h.cell (p := ⟨q, o, none⟩) (World.block_lt_of_cell? A _ hv)).trans hv
theorem Kp.trans {S : Nat → Prop} {A B C : World} (h : Kp S A B) (k : Kp S B C) : Kp S A C := fun q o v hs hv => k q o v hs (h q o v hs hv)

set_option maxRecDepth 100000 in
set_option maxHeartbeats 4000000 in
theorem holds1_in (m : Nat) (hm : 1 ≤ m) (S : Nat → Prop) (l Bt Bi Bx b off n cp : Nat) (f : Nat → Bd) (x idx : Int) (hn : n ≤ 64) (hr : Rises f n) (i0 : 1 ≤ idx) (i1 : idx ≤ 400) (x0 : -2305843009213693952 ≤ x) (x1 : x ≤ 2305843009213693952)
    (hb : S b) (hbt : S Bt) (hbi : S Bi) (hbx : S Bx) (J Jx : List Pr → World → Prop) (W : World) (hJ : AbidesFrom W.heap.size J)
    (hY : ∀ pre y W1, J pre W1 → pre.length < n → YieldAt Fence.wide (m - 1) Try.prog l #[.int .i64 y.1.1, .int .i64 y.1.2] W1 fun e W' =>
      (e = .returned (.bool true) ∧ J (pre ++ [y]) W' ∧ Kp S W1 W') ∨ (e = .returned (.bool false) ∧ Jx (pre ++ [y]) W'))
    (ct : W.cell? ⟨Bt, 0, none⟩ = some (.slice (some ⟨b, off, none⟩) n cp)) (ci : W.cell? ⟨Bi, 0, none⟩ = some (.int .i64 idx)) (cx : W.cell? ⟨Bx, 0, none⟩ = some (.int .i64 x))
    (hc : ∀ j, j < n → W.cell? ⟨b, off + j * 2, none⟩ = some (.int .i64 (f j).1) ∧ W.cell? ⟨b, off + j * 2 + 1, none⟩ = some (.int .i64 (f j).2)) (h0 : J [] W) :
    CallsIn Fence.wide m Try.prog 32 #[.func (.yield l) #[] #[], .pointer (some ⟨Bt, 0, none⟩), .pointer (some ⟨Bi, 0, none⟩), .pointer (some ⟨Bx, 0, none⟩)] W fun e W' => (∃ v, e = .returned v) ∧
      ((∃ ys, ys = upto (pairV f n x idx) (cnt f n x idx) ∧ J ys W') ∨ (∃ pre, True ∧ Jx pre W')) := by
  refine callsIn_of_wp Try.func32 rfl trivial ?_ rfl
  simp only [Try.ntmps32, List.size_toArray, List.length_cons, List.length_nil, Nat.reduceAdd, Nat.reduceSub, Array.replicate_succ, Array.replicate_zero, List.push_toArray, List.append_toArray, List.nil_append, List.cons_append]
  gi_wp2
  gi_loopw [11] (fun i wr => ∃ k : Nat, k ≤ n ∧ i = .int .i64 k ∧ J (upto (pairV f n x idx) k) wr ∧ Kp S W wr ∧ Hid (∀ j, j < k → (f j).1 * idx < x))
    (fun i _ => n - (RowKit.intOf i).toNat)
  case atStart => exact ⟨0, Nat.zero_le _, rfl, h0, Kp.of (Below.refl _ _), Lib.hid (fun j h => by omega)⟩
  case round =>
    obtain ⟨k, hk, rfl, hJs, hnx, HP⟩ := hrel
    by_cases hlt : k < n
    · have kc : ∀ j, j < n → wr.cell? ⟨b, off + j * 2, none⟩ = some (.int .i64 (f j).1) ∧ wr.cell? ⟨b, off + j * 2 + 1, none⟩ = some (.int .i64 (f j).2) := fun j hj => ⟨hnx _ _ _ hb (hc j hj).1, hnx _ _ _ hb (hc j hj).2⟩
      have ct1 := hnx _ _ _ hbt ct
      have ci1 := hnx _ _ _ hbi ci
      have cx1 := hnx _ _ _ hbx cx
      obtain ⟨ck0, ck1⟩ := kc k hlt
      have HKN : k + 1 < n → wr.cell? ⟨b, off + (k + 1) * 2, none⟩ = some (.int .i64 (f (k + 1)).1) := fun h => (kc (k + 1) h).1
      have j0 : (0 : Int) ≤ (k : Int) := by omega
      have j1 : (k : Int) < (n : Int) := by omega
      have hg0 := hr.ge k hlt
      have hg1 := (hr.2.1 k hlt).1
      have hgm := idx_bd hg0 hg1 i0 i1
      have hn1 : k + 1 < n → 0 ≤ (f (k + 1)).1 * idx ∧ (f (k + 1)).1 * idx ≤ 450359962737049600 := fun h => idx_bd (hr.ge (k + 1) h) (hr.2.1 (k + 1) h).1 i0 i1
      have hiff := to_iff hr (x := x) i0 hlt
      have hcnt := Lib.hid (fun h => cnt_is (f := f) (n := n) (x := x) (idx := idx) (Nat.le_of_lt hlt) HP.out (fun _ => h))
      have hnext := Lib.hid (show (f k).1 * idx < x → ∀ j, j < k + 1 → (f j).1 * idx < x from fun h j hj => by
        rcases Nat.lt_succ_iff_lt_or_eq.1 hj with h3 | rfl
        · exact HP.out j h3
        · exact h)
      have hrt := (hr.2.1 k hlt).2
      have hgt0 := fun h => to_gt hr (x := x) i0 hlt h
      have htl := to_le f n x idx k
      have hup : (f k).1 * idx < x → ∃ h, upto (pairV f n x idx) (k + 1) = upto (pairV f n x idx) k ++ [⟨((f k).2, toV f n x idx k - (f k).1 * idx), h⟩] := fun h => by
        have h1 := hgt0 h
        have hh : (0 ≤ (f k).2 ∧ (f k).2 ≤ 1000000) ∧ 0 ≤ heldV f n x idx k ∧ heldV f n x idx k ≤ 2305843009213693952 := by unfold heldV; omega
        exact ⟨hh, by rw [upto_succ, pairV_is hh]; rfl⟩
      have hto : toV f n x idx k = if k + 1 < n then min x ((f (k + 1)).1 * idx) else x := rfl
      have hlen : (upto (pairV f n x idx) k).length < n := by rw [upto_length]; exact hlt
      clear hc kc hgt0 htl hrt
      generalize (f k).1 = a at *
      generalize (f k).2 = r at *
      obtain ⟨U1, hU1⟩ : ∃ U1, U1 = upto (pairV f n x idx) (k + 1) := ⟨_, rfl⟩
      rw [← hU1] at hup
      replace hup := Lib.hid hup
      generalize hU0 : upto (pairV f n x idx) k = U0 at *
      replace hU1 := Lib.hid hU1
      replace hU0 := Lib.hid hU0
      gi_upto_region 3 with fail
      have hlq : Below wr.heap.size wr (wr.alloc (.cells #[.int .i64 a, .int .i64 r] 48)) := (Below.refl _ _).alloc (Nat.le_refl _) _
      have u0 : (wr.alloc (.cells #[.int .i64 a, .int .i64 r] 48)).cell? ⟨wr.heap.size, 0, none⟩ = some (.int .i64 a) := by rw [World.cell?_alloc_new]; rfl
      have u1 : (wr.alloc (.cells #[.int .i64 a, .int .i64 r] 48)).cell? ⟨wr.heap.size, 1, none⟩ = some (.int .i64 r) := by rw [World.cell?_alloc_new]; rfl
      have ct2 := (hlq.cell (p := ⟨Bt, 0, none⟩) (World.block_lt_of_cell? wr _ ct1)).trans ct1
      have ci2 := (hlq.cell (p := ⟨Bi, 0, none⟩) (World.block_lt_of_cell? wr _ ci1)).trans ci1
      have cx2 := (hlq.cell (p := ⟨Bx, 0, none⟩) (World.block_lt_of_cell? wr _ cx1)).trans cx1
      have HK2 : k + 1 < n → (wr.alloc (.cells #[.int .i64 a, .int .i64 r] 48)).cell? ⟨b, off + (k + 1) * 2, none⟩ = some (.int .i64 (f (k + 1)).1) := fun h => (hlq.cell (p := ⟨b, off + (k + 1) * 2, none⟩) (World.block_lt_of_cell? wr _ (HKN h))).trans (HKN h)
      have hJW : ∀ W2, Below wr.heap.size wr W2 → J U0 W2 := fun W2 h => abide hJ hJs h
      have hkW : ∀ W2, Below wr.heap.size wr W2 → Kp S W W2 := fun W2 h => hnx.trans (Kp.of h)
      replace hJW := Lib.hid hJW
      replace hkW := Lib.hid hkW
      clear ct1 ci1 cx1 HKN ck0 ck1
      generalize (wr.alloc (.cells #[.int .i64 a, .int .i64 r] 48)) = WA at *
      have HLQ := Lib.hid hlq
      clear hlq hJs hnx
      generalize hgA : wr.heap.size = gA at u0 u1 HLQ hJW hkW ⊢
      clear hgA
      have wm : IntKind.i64.wrap (a * idx) = a * idx := IntWalk.i64_in _ (by omega)
      gi_quiet (fail)
      by_cases hk1 : k + 1 < n
      case neg =>
        rw [if_neg hk1] at hto
        rw [hto] at hiff
        replace hup := hup.out
        rw [hto] at hup
        have dk : ¬ (k : Int) + 1 < (n : Int) := by omega
        clear hto HK2 hn1
        by_cases hx : x ≤ a * idx
        case pos =>
          have hle : x ≤ a * idx := hiff.2 hx
          have dl : decide (x ≤ a * idx) = true := decide_eq_true hle
          have hcn := hcnt.out hx
          have hJf := hJW.out (WA.drewN nq) (below_drewN HLQ.out _)
          clear hcnt hnext hup hiff
          gi_wp2
          refine ⟨fun _ h => (by cases h), ?_⟩
          gi_wp2
          refine bodyPost_ret (results_none rfl _ _ _) rfl ?_
          exact ⟨⟨_, rfl⟩, .inl ⟨_, by rw [hcn, hU0.out], hJf⟩⟩
        case neg =>
          have hgt : ¬ x ≤ a * idx := fun h => hx (hiff.1 h)
          have dl : decide (x ≤ a * idx) = false := decide_eq_false hgt
          have hnx2 := Lib.hid (hnext.out (by omega))
          obtain ⟨hpr, hup2⟩ := hup (by omega)
          replace hup2 := Lib.hid hup2
          have hkf := Lib.hid (hkW.out (WA.drewN nq) (below_drewN HLQ.out _))
          clear hcnt hnext hup hiff hx
          obtain ⟨fn, tmps, assign, body, hy, hR⟩ := hY U0 ⟨(r, x - a * idx), hpr⟩ (WA.drewN nq) (hJW.out _ (below_drewN HLQ.out _)) hlen
          dsimp only at hy
          gi_wp2
          refine hR.mono ?_
          rintro e W3 (⟨rfl, hJ3, hk3⟩ | ⟨rfl, hJx3⟩)
          · gi_wp2
            go_roundw
            case rel => exact ⟨k + 1, by omega, by go_num, by rw [← hU1.out, hup2.out]; exact hJ3, hkf.out.trans hk3, hnx2⟩
            case measure => simp [RowKit.intOf]; omega
          · gi_wp2
            refine bodyPost_ret (results_none rfl _ _ _) rfl ?_
            exact ⟨⟨_, rfl⟩, .inr ⟨_, trivial, hJx3⟩⟩
      case pos =>
        rw [if_pos hk1] at hto
        rw [hto] at hiff
        replace hup := hup.out
        rw [hto] at hup
        have dk : (k : Int) + 1 < (n : Int) := by omega
        have hc2 := HK2 hk1
        have hn2 := hn1 hk1
        clear hto HK2 hn1
        generalize (f (k + 1)).1 = c at *
        have wc : IntKind.i64.wrap (c * idx) = c * idx := IntWalk.i64_in _ (by omega)
        have wk : IntKind.i64.wrap ((k : Int) + 1) = (k : Int) + 1 := IntWalk.i64_in _ (by omega)
        have k0 : 0 ≤ (k : Int) + 1 := by omega
        have k1 : ((k : Int) + 1).toNat = k + 1 := by omega
        generalize nq = nq1
        gi_upto_region 5 with fail
        gi_quiet (fail)
        by_cases hx : x ≤ a * idx
        case pos =>
          have hle : min x (c * idx) ≤ a * idx := hiff.2 hx
          have dl : decide (min x (c * idx) ≤ a * idx) = true := decide_eq_true hle
          have hcn := hcnt.out hx
          have hJf := hJW.out (WA.drewN (nq1 + nq)) (below_drewN HLQ.out _)
          clear hcnt hnext hup hiff
          gi_wp2
          refine ⟨fun _ h => (by cases h), ?_⟩
          gi_wp2
          refine bodyPost_ret (results_none rfl _ _ _) rfl ?_
          exact ⟨⟨_, rfl⟩, .inl ⟨_, by rw [hcn, hU0.out], hJf⟩⟩
        case neg =>
          have hgt : ¬ min x (c * idx) ≤ a * idx := fun h => hx (hiff.1 h)
          have dl : decide (min x (c * idx) ≤ a * idx) = false := decide_eq_false hgt
          have hnx2 := Lib.hid (hnext.out (by omega))
          obtain ⟨hpr, hup2⟩ := hup (by omega)
          replace hup2 := Lib.hid hup2
          have hkf := Lib.hid (hkW.out (WA.drewN (nq1 + nq)) (below_drewN HLQ.out _))
          clear hcnt hnext hup hiff hx
          obtain ⟨fn, tmps, assign, body, hy, hR⟩ := hY U0 ⟨(r, min x (c * idx) - a * idx), hpr⟩ (WA.drewN (nq1 + nq)) (hJW.out _ (below_drewN HLQ.out _)) hlen
          dsimp only at hy
          gi_wp2
          refine hR.mono ?_
          rintro e W3 (⟨rfl, hJ3, hk3⟩ | ⟨rfl, hJx3⟩)
          · gi_wp2
            go_roundw
            case rel => exact ⟨k + 1, by omega, by go_num, by rw [← hU1.out, hup2.out]; exact hJ3, hkf.out.trans hk3, hnx2⟩
            case measure => simp [RowKit.intOf]; omega
          · gi_wp2
            refine bodyPost_ret (results_none rfl _ _ _) rfl ?_
            exact ⟨⟨_, rfl⟩, .inr ⟨_, trivial, hJx3⟩⟩
    · obtain rfl : k = n := by omega
      gi_wp2
      go_end0
      exact ⟨⟨_, rfl⟩, .inl ⟨_, by rw [cnt_is (Nat.le_refl _) HP.out (fun h => absurd h (Nat.lt_irrefl _))], hJs⟩⟩

set_option maxRecDepth 100000 in
set_option maxHeartbeats 1000000 in
/-- .. at a table without bands: no round. -/
theorem holds1_nil_in (m : Nat) (l Bt Bi Bx : Nat) (p : Option Addr) (cp : Nat) (J : List Pr → World → Prop) (W : World) (ct : W.cell? ⟨Bt, 0, none⟩ = some (.slice p 0 cp)) (h0 : J [] W) :
    CallsIn Fence.wide m Try.prog 32 #[.func (.yield l) #[] #[], .pointer (some ⟨Bt, 0, none⟩), .pointer (some ⟨Bi, 0, none⟩), .pointer (some ⟨Bx, 0, none⟩)] W fun e W' => (∃ v, e = .returned v) ∧ J [] W' := by
  refine callsIn_of_wp Try.func32 rfl trivial ?_ rfl
  simp only [Try.ntmps32, List.size_toArray, List.length_cons, List.length_nil, Nat.reduceAdd, Nat.reduceSub, Array.replicate_succ, Array.replicate_zero, List.push_toArray, List.append_toArray, List.nil_append, List.cons_append]
  gi_wp2
  gi_loopw [11] (fun i wr => i = .int .i64 0 ∧ J [] wr) (fun _ _ => 0)
  case atStart => exact ⟨rfl, h0⟩
  case round =>
    obtain ⟨rfl, hJs⟩ := hrel
    gi_wp2
    go_end0
    exact ⟨⟨_, rfl⟩, hJs⟩
set_option maxHeartbeats 1000000 in
/-- holds: three boxes; the function value captures them. -/
theorem holds_in (m : Nat) (x idx : Int) (p : Option Addr) (n cp : Nat) (w : World) :
    CallsIn Fence.wide m Try.prog 28 #[.int .i64 x, .int .i64 idx, .slice p n cp] w fun e w' => e = .returned (.func (.func 32) #[] #[.pointer (some ⟨w.heap.size + 1 + 1, 0, none⟩), .pointer (some ⟨w.heap.size + 1, 0, none⟩), .pointer (some ⟨w.heap.size, 0, none⟩)]) ∧
      w' = ((w.alloc (.cells #[.int .i64 x] 2)).alloc (.cells #[.int .i64 idx] 3)).alloc (.cells #[.slice p n cp] 23) := by
  refine callsIn_of_wp Try.func28 rfl trivial ?_ rfl
  simp only [Try.ntmps28, List.size_toArray, List.length_cons, List.length_nil, Nat.reduceAdd, Nat.reduceSub, Array.replicate_succ, Array.replicate_zero, List.push_toArray, List.append_toArray, List.nil_append, List.cons_append]
  gi_wp2
  go_ret
  exact ⟨rfl, rfl⟩
/-- What the iterator of a right table promises. -/
theorem holds_stops (m : Nat) (hm : 1 ≤ m) (S : Nat → Prop) (Bt Bi Bx : Nat) (p : Option Addr) (n cp : Nat) (f : Nat → Bd) (x idx : Int) (hn : n ≤ 64) (hr : Rises f n) (i0 : 1 ≤ idx) (i1 : idx ≤ 400) (x0 : -2305843009213693952 ≤ x) (x1 : x ≤ 2305843009213693952)
    (w : World) (hbt : S Bt) (hbi : S Bi) (hbx : S Bx) (hf : BdIn w p n f) (hl : ∀ a, p = some a → 0 < n → S a.block)
    (ct : w.cell? ⟨Bt, 0, none⟩ = some (.slice p n cp)) (ci : w.cell? ⟨Bi, 0, none⟩ = some (.int .i64 idx)) (cx : w.cell? ⟨Bx, 0, none⟩ = some (.int .i64 x)) :
    SeqStopsK Fence.wide m Try.prog 32 #[.pointer (some ⟨Bt, 0, none⟩), .pointer (some ⟨Bi, 0, none⟩), .pointer (some ⟨Bx, 0, none⟩)] encs (Kp S) (fun ys => ys = upto (pairV f n x idx) (cnt f n x idx)) (fun _ => True) n w := fun l J Jx W hW hJ _ hY h0 => by
  have ct' := (hW.cell (p := ⟨Bt, 0, none⟩) (World.block_lt_of_cell? w _ ct)).trans ct
  have ci' := (hW.cell (p := ⟨Bi, 0, none⟩) (World.block_lt_of_cell? w _ ci)).trans ci
  have cx' := (hW.cell (p := ⟨Bx, 0, none⟩) (World.block_lt_of_cell? w _ cx)).trans cx
  by_cases h : n = 0
  · subst h
    refine (holds1_nil_in m l Bt Bi Bx p cp J W ct' h0).mono fun e W' ⟨he, hj⟩ => ⟨he, .inl ⟨_, rfl, ?_⟩⟩
    rw [cnt_is (Nat.le_refl 0) (fun j hj => by omega) (fun hj => by omega)]
    exact hj
  · rcases hf.kp hW with h1 | ⟨b, o, rfl, hb, hc⟩
    · exact absurd h1 h
    · exact holds1_in m hm S l Bt Bi Bx b o n cp f x idx hn hr i0 i1 x0 x1 (hl _ rfl (by omega)) hbt hbi hbx J Jx W hJ hY ct' ci' cx' hc h0

end Go.Proofs.Ytbflgckmhhmklaa
