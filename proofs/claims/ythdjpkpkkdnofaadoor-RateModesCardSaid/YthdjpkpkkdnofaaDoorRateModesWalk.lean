/-
  What is proved: the walk of the statement RateModes: the call returns true. Conditions: the table of powers of ten reads as the library lays it.
-/
import Derived.Test.YthdjpkpkkdnofaaDoorRateTell
import Derived.Test.YthdjpkpkkdnofaaDoorPartLaws
import Derived.WalkSmall
import Derived.IntWalk
import Derived.Deep.QuietTactic
import Derived.BigQuiet
namespace Go.Proofs.YthdjpkpkkdnofaaDoor
open Go Go.RowKit Go.Lib Go.Proofs
set_option linter.unusedVariables false

theorem round_modes (A D : Nat) (hD : 0 < D) :
    (∀ b, roundQ A D 0 b = A / D) ∧ roundQ A D 4 false = A / D ∧ (∀ b, roundQ A D 3 b = roundQ A D 4 true) ∧
    (∀ m : Int, 0 ≤ m → m ≤ 3 → ∀ b, roundQ A D m b = A / D ∨ roundQ A D m b = roundQ A D 4 true) ∧ A / D ≤ roundQ A D 4 true ∧ roundQ A D 4 true ≤ A / D + 1 := by
  have hlt := Nat.mod_lt A hD
  have h4 : roundQ A D 4 true = A / D + (if 0 < A % D then 1 else 0) := by
    unfold roundQ
    have e : awayB 4 true (decide (A / D % 2 = 1)) (A % D) D = decide (0 < A % D) := rfl
    rw [e]; simp only [decide_eq_true_eq]
  have h0 : ∀ b, roundQ A D 0 b = A / D := fun b => by unfold roundQ; rfl
  have h3 : ∀ b, roundQ A D 3 b = A / D + (if 0 < A % D then 1 else 0) := fun b => by
    unfold roundQ
    have e : awayB 3 b (decide (A / D % 2 = 1)) (A % D) D = decide (0 < A % D) := rfl
    rw [e]; simp only [decide_eq_true_eq]
  refine ⟨h0, rfl, fun b => by rw [h3, h4], ?_, by omega, by rw [h4]; split <;> omega⟩
  intro m m0 m3 b
  have hm : m = 0 ∨ m = 1 ∨ m = 2 ∨ m = 3 := by omega
  have gen : ∀ (aw : Bool), (aw = true → 0 < A % D) → A / D + (if aw = true then 1 else 0) = A / D ∨ A / D + (if aw = true then 1 else 0) = roundQ A D 4 true := by
    intro aw h
    cases aw
    · left; rfl
    · right; rw [h4, if_pos rfl, if_pos (h rfl)]
  rcases hm with rfl | rfl | rfl | rfl
  · left; exact h0 b
  · exact gen _ (fun h => by have := of_decide_eq_true (show decide (D ≤ 2 * (A % D)) = true from h); omega)
  · refine gen _ (fun h => ?_)
    cases ho : decide (A / D % 2 = 1) with
    | true => rw [ho] at h; have := of_decide_eq_true (show decide (D ≤ 2 * (A % D)) = true from h); omega
    | false => rw [ho] at h; have := of_decide_eq_true (show decide (D < 2 * (A % D)) = true from h); omega
  · right; rw [h3, h4]

theorem rnd_neg (m : Int) (D : Nat) (hD : 0 < D) (N : Int) (hm : m ≠ 4) : rnd m D (-N) = -(rnd m D N) := by
  unfold rnd
  rw [Int.natAbs_neg, round_below hm _ _ true false]
  by_cases h1 : N < 0
  · rw [if_neg (by omega), if_pos h1]; omega
  · by_cases h2 : N = 0
    · subst h2
      rw [Int.natAbs_zero, round_zero D m _ hD]; rfl
    · rw [if_pos (by omega), if_neg h1]

/-- What the five modes come to. -/
structure Modes (c num den q up : Int) (p b : Nat → Int) : Prop where
  parts : ∀ k : Nat, k < 5 → partVE c num den k = (p k, 0)
  turns : ∀ k : Nat, k < 5 → partVE (-c) num den k = (b k, 0)
  down : p 0 = q
  floor : p 4 = q
  low : 0 ≤ q
  le : q ≤ up
  top : up ≤ q + 1
  below : b 4 = -up
  each : ∀ k : Nat, k < 4 → (p k = q ∨ p k = up) ∧ b k = -(p k)
  bound : up ≤ 1125899906842624

theorem modes_of (c num den : Int) (hc : 0 ≤ c) (hn : 0 ≤ num) (h : (partVE c num den 3).2 = 0) : ∃ q p b, Modes c num den q (partVE c num den 3).1 p b := by
  obtain ⟨hf, hd, _, _, hM, e3⟩ := partVE_ok c num den 3 h
  have hD : 0 < den.toNat := by omega
  have hN : 0 ≤ c * num := Int.mul_nonneg hc hn
  have hf' : fitsB (-c) = true := by rw [fitsB_iff] at hf ⊢; omega
  obtain ⟨r0, r4, r3, rm, rl, rt⟩ := round_modes (c * num).natAbs den.toNat hD
  have pos : ∀ m, rnd m den.toNat (c * num) = (roundQ (c * num).natAbs den.toNat m false : Int) := fun m => by unfold rnd; rw [if_neg (by omega)]
  have e3' : rnd 3 den.toNat (c * num) = (roundQ (c * num).natAbs den.toNat 4 true : Int) := by rw [pos, r3]
  have neg4 : rnd 4 den.toNat (-(c * num)) = -(roundQ (c * num).natAbs den.toNat 4 true : Int) := by
    unfold rnd
    rw [Int.natAbs_neg]
    by_cases hz : c * num = 0
    · rw [hz, if_neg (by omega), Int.natAbs_zero, round_zero _ _ _ hD, round_zero _ _ _ hD]; rfl
    · rw [if_pos (by omega)]
  rw [e3] at *
  rw [e3'] at hM ⊢
  have lt5 : ∀ k : Nat, k < 5 → k = 0 ∨ k = 1 ∨ k = 2 ∨ k = 3 ∨ k = 4 := by intro k hk; omega
  have le_up : ∀ m : Int, 0 ≤ m → m ≤ 4 → roundQ (c * num).natAbs den.toNat m false ≤ roundQ (c * num).natAbs den.toNat 4 true := by
    intro m m0 m4
    by_cases h4 : m = 4
    · rw [h4, r4]; exact rl
    · rcases rm m m0 (by omega) false with h | h
      · rw [h]; exact rl
      · rw [h]; exact Nat.le_refl _
  have val : ∀ k : Nat, k < 5 → partVE c num den k = ((roundQ (c * num).natAbs den.toNat k false : Int), 0) := by
    intro k hk
    rw [partVE_val c num den k hf hd (by omega) (by omega), pos]
    have := le_up k (by omega) (by omega)
    rw [if_pos (by rw [Int.natAbs_natCast] at hM ⊢; omega)]
  have valn : ∀ k : Nat, k < 4 → partVE (-c) num den k = (-(roundQ (c * num).natAbs den.toNat k false : Int), 0) := by
    intro k hk
    rw [partVE_val (-c) num den k hf' hd (by omega) (by omega), Int.neg_mul, rnd_neg _ _ hD _ (by omega), pos]
    have := le_up k (by omega) (by omega)
    rw [if_pos (by rw [Int.natAbs_neg, Int.natAbs_natCast]; rw [Int.natAbs_natCast] at hM; omega)]
  have val4 : partVE (-c) num den 4 = (-(roundQ (c * num).natAbs den.toNat 4 true : Int), 0) := by
    rw [partVE_val (-c) num den 4 hf' hd (by omega) (by omega), Int.neg_mul, neg4]
    rw [if_pos (by rw [Int.natAbs_neg]; exact hM)]
  refine ⟨((c * num).natAbs / den.toNat : Nat), fun k => (roundQ (c * num).natAbs den.toNat k false : Int), fun k => if k = 4 then -(roundQ (c * num).natAbs den.toNat 4 true : Int) else -(roundQ (c * num).natAbs den.toNat k false : Int), ?_⟩
  constructor
  · exact val
  · intro k hk
    by_cases h4 : k = 4
    · subst h4; rw [if_pos rfl]; exact val4
    · simp only [if_neg h4]; exact valn k (by omega)
  · show ((roundQ (c * num).natAbs den.toNat 0 false : Nat) : Int) = _
    rw [r0]
  · show ((roundQ (c * num).natAbs den.toNat 4 false : Nat) : Int) = _
    rw [r4]
  · omega
  · omega
  · omega
  · simp
  · intro k hk
    refine ⟨?_, by simp only [if_neg (show k ≠ 4 by omega)]⟩
    rcases rm k (by omega) (by omega) false with h | h
    · left; simp only [h]
    · right; simp only [h]
  · rw [Int.natAbs_natCast] at hM; omega

/-- The first five cells of a block hold these amounts, and may be written. -/
def Arr (w : World) (g : Nat) (f : Nat → Int) : Prop := (∀ j, j < 5 → w.cell? ⟨g, j, none⟩ = some (.int .i64 (f j))) ∧ (∀ j, j < 5 → w.frozen? ⟨g, j, none⟩ = false)
def putZ (f : Nat → Int) (p : Nat) (v : Int) : Nat → Int := fun j => if j = p then v else f j
theorem Arr.store {w : World} {g : Nat} {f : Nat → Int} (h : Arr w g f) (p : Nat) (v : Int) (hp : p < 5) : Arr (w.setCell ⟨g, p, none⟩ (.int .i64 v)) g (putZ f p v) := by
  refine ⟨fun j hj => ?_, fun j hj => ?_⟩
  · by_cases e : j = p
    · subst e
      rw [World.cell?_setCell_same _ _ _ (h.1 j hj)]
      unfold putZ; rw [if_pos rfl]
    · rw [World.cell?_setCell_other _ _ _ _ (by intro h'; apply e; injection h' with _ h2 _; exact h2.symm)]
      unfold putZ; rw [if_neg e]; exact h.1 j hj
  · rw [World.frozen?_setCell]; exact h.2 j hj
theorem Arr.other {w : World} {g g' : Nat} {f : Nat → Int} (h : Arr w g f) (hne : g ≠ g') (p : Nat) (v : Value) : Arr (w.setCell ⟨g', p, none⟩ v) g f := by
  refine ⟨fun j hj => ?_, fun j hj => ?_⟩
  · rw [World.cell?_setCell_other _ _ _ _ (by intro h'; apply hne; injection h' with h1 _ _; exact h1.symm)]; exact h.1 j hj
  · rw [World.frozen?_setCell]; exact h.2 j hj
theorem Arr.below {w w' : World} {g : Nat} {f : Nat → Int} (h : Arr w g f) {B : Nat} (hb : Below B w w') (hg : g < B) : Arr w' g f :=
  ⟨fun j hj => by rw [hb.cell (p := ⟨g, j, none⟩) hg]; exact h.1 j hj, fun j hj => by rw [hb.frozen (p := ⟨g, j, none⟩) hg]; exact h.2 j hj⟩
theorem Arr.drewN {w : World} {g : Nat} {f : Nat → Int} (h : Arr w g f) (n : Nat) : Arr (w.drewN n) g f := ⟨fun j hj => h.1 j hj, fun j hj => h.2 j hj⟩
theorem size_set (W : World) (p : Addr) (v : Value) {n : Nat} (h : n < W.heap.size) : n < (W.setCell p v).heap.size := by
  have := ((Below.refl 0 W).setCell (Nat.zero_le _) v (p := p)).size
  omega

theorem arr_new (W : World) (t : TypeId) : Arr (W.alloc (.cells #[.int .i64 0, .int .i64 0, .int .i64 0, .int .i64 0, .int .i64 0] t)) W.heap.size (fun _ => 0) := by
  refine ⟨fun j hj => ?_, fun j hj => by rw [World.frozen?_alloc_new]⟩
  rw [World.cell?_alloc_new]
  match j, hj with
  | 0, _ => rfl
  | 1, _ => rfl
  | 2, _ => rfl
  | 3, _ => rfl
  | 4, _ => rfl

set_option maxHeartbeats 4000000 in
set_option maxRecDepth 100000 in
theorem walkRateModes (c num den : Int) (w : World) (w0 : (Lit.int .i64 c).wf = true) (w1 : (Lit.int .i64 num).wf = true) (w2 : (Lit.int .i64 den).wf = true) (htab : TabIs Tryd.prog w "internal/strconv.uint64pow10" .u64 pow10Tab) :
    Calls Tryd.prog 12 #[.int .i64 c, .int .i64 num, .int .i64 den] w fun e w' => e = .returned (.bool true) ∧ Below w.heap.size w w' := by
  have HW := Lib.hid (awake2 w htab)
  obtain ⟨c1, c2⟩ := bounds_i64 w0
  obtain ⟨n1, n2⟩ := bounds_i64 w1
  obtain ⟨-, d2⟩ := bounds_i64 w2
  clear w0 w1 w2
  by_cases hc : c < 0
  · go_enter Tryd.func12, Tryd.ntmps12
    go_wp2_with fail
    refine (HW.out).mono ?_
    rintro e' wa ⟨rfl, hba⟩
    go_wp2
    go_ret
    exact ⟨rfl, hba⟩
  by_cases hn : num < 0
  · go_enter Tryd.func12, Tryd.ntmps12
    go_wp2_with fail
    refine (HW.out).mono ?_
    rintro e' wa ⟨rfl, hba⟩
    go_wp2
    go_ret
    exact ⟨rfl, hba⟩
  by_cases h3 : (partVE c num den 3).2 = 0
  case neg =>
    obtain ⟨x, ex, hx⟩ : ∃ x e, partVE c num den 3 = (x, e) := ⟨_, _, rfl⟩
    have t1 := fun W => part_any c num den 3 n1 n2 d2 W
    simp only [hx] at t1 h3
    have e1b : (ex != 0) = true := by rw [bne_iff_ne]; exact h3
    have H1 := Lib.hid t1
    clear t1 hx h3
    go_enter Tryd.func12, Tryd.ntmps12
    go_wp2_with fail
    refine (HW.out).mono ?_
    rintro e' wa ⟨rfl, hba⟩
    go_wp2_with fail
    refine (H1.out _).mono ?_
    rintro e' wb ⟨rfl, hbb⟩
    have k1 := hba.trans (hbb.mono hba.size)
    go_wp2
    go_ret
    exact ⟨rfl, k1⟩
  obtain ⟨q, p, b, M⟩ := modes_of c num den (by omega) (by omega) h3
  obtain ⟨up, hup⟩ : ∃ up, up = (partVE c num den 3).1 := ⟨_, rfl⟩
  rw [← hup] at M
  have t1 := fun W => part_any c num den 3 n1 n2 d2 W
  have e3 : partVE c num den 3 = (up, 0) := by rw [hup, ← h3]
  simp only [e3] at t1
  have H1 := Lib.hid t1
  have q0 := M.low
  have q1 := M.le
  have q2 := M.top
  have q3 := M.bound
  have HM := Lib.hid M
  have hcb : decide (c < 0) = false := decide_eq_false hc
  have hnb : decide (num < 0) = false := decide_eq_false hn
  clear t1 e3 hup h3 M
  go_enter Tryd.func12, Tryd.ntmps12
  go_wp2_with fail
  refine (HW.out).mono ?_
  rintro e' wa ⟨rfl, hba⟩
  go_wp2_with fail
  refine (H1.out _).mono ?_
  rintro e' wb ⟨rfl, hbb⟩
  have k1 := hba.trans (hbb.mono hba.size)
  clear hba hbb
  go_wp2
  obtain ⟨G, hG⟩ : ∃ G, G = wb.heap.size := ⟨_, rfl⟩
  have hA1 : Arr ((wb.alloc (.cells #[.int .i64 0, .int .i64 0, .int .i64 0, .int .i64 0, .int .i64 0] 55)).alloc (.cells #[.int .i64 0, .int .i64 0, .int .i64 0, .int .i64 0, .int .i64 0] 55)) wb.heap.size (fun _ => 0) :=
    (arr_new wb _).below ((Below.refl (wb.heap.size + 1) _).alloc (by simp) _) (by omega)
  have hA2 : Arr ((wb.alloc (.cells #[.int .i64 0, .int .i64 0, .int .i64 0, .int .i64 0, .int .i64 0] 55)).alloc (.cells #[.int .i64 0, .int .i64 0, .int .i64 0, .int .i64 0, .int .i64 0] 55)) (wb.heap.size + 1) (fun _ => 0) := by
    have h := arr_new (wb.alloc (.cells #[.int .i64 0, .int .i64 0, .int .i64 0, .int .i64 0, .int .i64 0] 55)) 55
    rwa [show (wb.alloc (.cells #[.int .i64 0, .int .i64 0, .int .i64 0, .int .i64 0, .int .i64 0] 55)).heap.size = wb.heap.size + 1 by simp] at h
  have hb0 : Below w.heap.size w ((wb.alloc (.cells #[.int .i64 0, .int .i64 0, .int .i64 0, .int .i64 0, .int .i64 0] 55)).alloc (.cells #[.int .i64 0, .int .i64 0, .int .i64 0, .int .i64 0, .int .i64 0] 55)) := (k1.alloc k1.size _).alloc (by have := k1.size; simp; omega) _
  have hz0 : wb.heap.size + 1 < ((wb.alloc (.cells #[.int .i64 0, .int .i64 0, .int .i64 0, .int .i64 0, .int .i64 0] 55)).alloc (.cells #[.int .i64 0, .int .i64 0, .int .i64 0, .int .i64 0, .int .i64 0] 55)).heap.size := by simp
  have hwb := k1.size
  clear k1 hG
  go_loopw [11] (fun i wr => ∃ (k : Nat) (f1 f2 : Nat → Int), k ≤ 5 ∧ i = .int .i64 k ∧ Hid (Arr wr wb.heap.size f1) ∧ Hid (Arr wr (wb.heap.size + 1) f2) ∧ Below w.heap.size w wr ∧ wb.heap.size + 1 < wr.heap.size ∧ Hid (∀ j, j < k → f1 j = p j ∧ f2 j = b j)) (fun i _ => 5 - (RowKit.intOf i).toNat)
  case atStart => exact ⟨0, _, _, by omega, rfl, Lib.hid hA1, Lib.hid hA2, hb0, hz0, Lib.hid (fun j hj => by omega)⟩
  case round =>
    clear hA1 hA2 hb0 hz0
    obtain ⟨k, f1, f2, hk, rfl, HA1, HA2, hbw, hsz, HF⟩ := hrel
    by_cases hlt : k < 5
    · have t2 := fun W => part_any c num den k n1 n2 d2 W
      have t3 := fun W => part_any (-c) num den k n1 n2 d2 W
      simp only [HM.out.parts k hlt] at t2
      simp only [HM.out.turns k hlt] at t3
      obtain ⟨pk, hpk⟩ : ∃ pk, pk = p k := ⟨_, rfl⟩
      obtain ⟨bk, hbk⟩ : ∃ bk, bk = b k := ⟨_, rfl⟩
      simp only [← hpk] at t2
      simp only [← hbk] at t3
      have H2 := Lib.hid t2
      have H3 := Lib.hid t3
      have HPK := Lib.hid hpk
      have HBK := Lib.hid hbk
      clear t2 t3 hpk hbk
      go_wp2_with fail
      refine (H2.out _).mono ?_
      rintro e' wc ⟨rfl, hbc⟩
      go_wp2_with fail
      refine (H3.out _).mono ?_
      rintro e' wd ⟨rfl, hbd⟩
      have hrd : Below wr.heap.size wr wd := hbc.trans (hbd.mono hbc.size)
      have kd := hbw.trans (hrd.mono hbw.size)
      have A1 := HA1.out.below hrd (by omega)
      have A2 := HA2.out.below hrd (by omega)
      have hszd : wb.heap.size + 1 < wd.heap.size := Nat.lt_of_lt_of_le hsz hrd.size
      have ca := A1.1 k hlt
      have cb := A2.1 k hlt
      have fa := A1.2 k hlt
      have fb := A2.2 k hlt
      have HB1 := Lib.hid A1
      have HB2 := Lib.hid A2
      have i1 : (0 : Int) ≤ (k : Int) := by omega
      have i2 : (k : Int) < 5 := by omega
      clear A1 A2 HA1 HA2 hbc hbd hrd hbw
      go_wp2
      refine ⟨⟨k + 1, putZ f1 k pk, putZ f2 k bk, by omega, by go_num, Lib.hid ((HB1.out.store k pk hlt).other (by omega) _ _), Lib.hid ((HB2.out.other (by omega) _ _).store k bk hlt), (kd.setCell hwb _).setCell (by show w.heap.size ≤ wb.heap.size + 1; omega) _, size_set _ _ _ (size_set _ _ _ hszd), Lib.hid (fun j hj => ?_)⟩, by simp [RowKit.intOf]; omega⟩
      unfold putZ
      by_cases e : j = k
      · subst e; rw [if_pos rfl, if_pos rfl]; exact ⟨HPK.out, HBK.out⟩
      · rw [if_neg e, if_neg e]; exact HF.out j (by omega)
    · obtain rfl : k = 5 := by omega
      have g0 : wr.cell? ⟨wb.heap.size, 0, none⟩ = some (.int .i64 q) := by rw [HA1.out.1 0 (by omega), (HF.out 0 (by omega)).1, HM.out.down]
      have g4 : wr.cell? ⟨wb.heap.size, 4, none⟩ = some (.int .i64 q) := by rw [HA1.out.1 4 (by omega), (HF.out 4 (by omega)).1, HM.out.floor]
      have h4 : wr.cell? ⟨wb.heap.size + 1, 4, none⟩ = some (.int .i64 (-up)) := by rw [HA2.out.1 4 (by omega), (HF.out 4 (by omega)).2, HM.out.below]
      have z1 : decide (up < q) = false := decide_eq_false (by omega)
      have z2 : decide (q + 1 < up) = false := decide_eq_false (by omega)
      have z3 : decide (q < 0) = false := decide_eq_false (by omega)
      go_wp2
      go_loopw [17] (fun i wz => ∃ k : Nat, k ≤ 4 ∧ i = .int .i64 k ∧ Hid (Arr wz wb.heap.size f1) ∧ Hid (Arr wz (wb.heap.size + 1) f2) ∧ Below w.heap.size w wz) (fun i _ => 4 - (RowKit.intOf i).toNat)
      case atStart => exact ⟨0, by omega, rfl, HA1, HA2, hbw⟩
      case round =>
        clear g0 g4 h4 HA1 HA2 hbw hsz hlt hk
        obtain ⟨k, hk, rfl, HA1, HA2, hbw⟩ := hrel
        by_cases hlt : k < 4
        · have hx := HM.out.each k hlt
          have hf := HF.out k (by omega)
          have i1 : (0 : Int) ≤ (k : Int) := by omega
          have i2 : (k : Int) < 5 := by omega
          have i3 : ((k : Int)).toNat = k := by omega
          have ca := HA1.out.1 k (by omega)
          have cb := HA2.out.1 k (by omega)
          rw [hf.1] at ca
          rw [hf.2, hx.2] at cb
          rcases hx.1 with hq | hu
          · rw [hq] at ca cb
            have b1 : (q != q) = false := by simp
            have b2 : (-q != -q) = false := by simp
            have b3 : IntKind.i64.wrap (-q) = -q := IntWalk.i64_in _ (by omega)
            clear hx hf hq
            go_wp2
            go_quiet (fail)
            go_wp2
            exact ⟨⟨k + 1, by omega, by go_num, Lib.hid (HA1.out.drewN nq), Lib.hid (HA2.out.drewN nq), below_drewN hbw nq⟩, by simp [RowKit.intOf]; omega⟩
          · by_cases hqu : up = q
            · rw [hu, hqu] at ca cb
              have b1 : (q != q) = false := by simp
              have b2 : (-q != -q) = false := by simp
              have b3 : IntKind.i64.wrap (-q) = -q := IntWalk.i64_in _ (by omega)
              clear hx hf hu hqu
              go_wp2
              go_quiet (fail)
              go_wp2
              exact ⟨⟨k + 1, by omega, by go_num, Lib.hid (HA1.out.drewN nq), Lib.hid (HA2.out.drewN nq), below_drewN hbw nq⟩, by simp [RowKit.intOf]; omega⟩
            · rw [hu] at ca cb
              have b1 : (up != q) = true := by rw [bne_iff_ne]; exact hqu
              have b0 : (up != up) = false := by simp
              have b2 : (-up != -up) = false := by simp
              have b3 : IntKind.i64.wrap (-up) = -up := IntWalk.i64_in _ (by omega)
              clear hx hf hu hqu
              go_wp2
              go_quiet (fail)
              go_wp2
              exact ⟨⟨k + 1, by omega, by go_num, Lib.hid (HA1.out.drewN nq), Lib.hid (HA2.out.drewN nq), below_drewN hbw nq⟩, by simp [RowKit.intOf]; omega⟩
        · go_wp2
          go_ret
          exact ⟨rfl, hbw⟩

end Go.Proofs.YthdjpkpkkdnofaaDoor
