/-
  What is proved: texts of other seats, joined for this one: what each theorem says. Conditions: as each says.
-/
import Derived.Test.YtogdiiengbmiiaaDoorTaPrA
import Derived.Deep.QuietTactic
import Derived.BigQuiet
import Derived.IntWalk
import Derived.Test.YtogdiiengbmiiaaDoorTaPrC
import Derived.Test.YtogdiiengbmiiaaDoorTaCe
namespace Go.Proofs.YtogdiiengbmiiaaDoor
open Go Go.RowKit Go.Proofs

theorem half_eq (a b c : Nat) (hc : 0 < c) : Sh.halfN a b c = (2 * (a * b) + c) / (2 * c) := by
  unfold Sh.halfN
  have h1 := Nat.div_add_mod (a * b) c
  have h2 := Nat.mod_lt (a * b) hc
  generalize a * b / c = q at h1 ⊢
  generalize a * b % c = r at h1 h2 ⊢
  rw [← h1]
  have e : 2 * (c * q + r) + c = 2 * c * q + (2 * r + c) := by rw [Nat.mul_add, Nat.mul_assoc]; omega
  rw [e, Nat.mul_add_div (by omega)]
  split
  · rename_i h
    rw [show (2 * r + c) / (2 * c) = 1 from Nat.div_eq_of_lt_le (by omega) (by omega)]
  · rename_i h
    rw [Nat.div_eq_of_lt (by omega)]; rfl
theorem half_mono (a c : Nat) (hc : 0 < c) {b d : Nat} (h : b ≤ d) : Sh.halfN a b c ≤ Sh.halfN a d c := by
  rw [half_eq a b c hc, half_eq a d c hc]
  exact Nat.div_le_div_right (by have := Nat.mul_le_mul_left a h; omega)
theorem half_all (a c : Nat) (hc : 0 < c) : Sh.halfN a c c = a := by
  rw [half_eq a c c hc]
  have e : 2 * (a * c) + c = 2 * c * a + c := by rw [Nat.mul_comm a c, Nat.mul_assoc]
  rw [e, Nat.mul_add_div (by omega), Nat.div_eq_of_lt (by omega)]; rfl
theorem half_no (a c : Nat) (hc : 0 < c) : Sh.halfN a 0 c = 0 := by
  rw [half_eq a 0 c hc, Nat.mul_zero]
  exact Nat.div_eq_of_lt (by omega)
theorem sg_cases (t : Int) : (t < 0 ∧ Sh.sg t = -1) ∨ (0 ≤ t ∧ Sh.sg t = 1) := by unfold Sh.sg; split <;> omega
theorem up_all (t f : Int) (hf : 0 < f) : Sh.upV t f f = t := by
  unfold Sh.upV
  rw [half_all _ _ (by omega)]
  rcases sg_cases t with ⟨h, e⟩ | ⟨h, e⟩ <;> rw [e] <;> omega
theorem up_no (t f : Int) (hf : 0 < f) : Sh.upV t 0 f = 0 := by
  unfold Sh.upV
  rw [show Int.toNat 0 = 0 from rfl, half_no _ _ (by omega)]
  rcases sg_cases t with ⟨h, e⟩ | ⟨h, e⟩ <;> rw [e] <;> rfl
/-- What lies between two places has the amount's sign, and isn't more than it. -/
theorem up_step (t a b f : Int) (_ : 0 ≤ a) (h1 : a ≤ b) (h2 : b ≤ f) (hf : 0 < f) : (0 ≤ t → 0 ≤ Sh.upV t b f - Sh.upV t a f ∧ Sh.upV t b f - Sh.upV t a f ≤ t) ∧ (t < 0 → Sh.upV t b f - Sh.upV t a f ≤ 0 ∧ t ≤ Sh.upV t b f - Sh.upV t a f) := by
  unfold Sh.upV
  have m1 := half_mono t.natAbs f.toNat (by omega) (show a.toNat ≤ b.toNat by omega)
  have m2 := half_mono t.natAbs f.toNat (by omega) (show b.toNat ≤ f.toNat by omega)
  rw [half_all _ _ (by omega)] at m2
  generalize Sh.halfN t.natAbs a.toNat f.toNat = x at m1
  generalize Sh.halfN t.natAbs b.toNat f.toNat = y at m1 m2
  rcases sg_cases t with ⟨h, e⟩ | ⟨h, e⟩ <;> rw [e] <;> omega
theorem fit_iff {t : Int} : Sh.fitB t = true ↔ -1125899906842624 ≤ t ∧ t ≤ 1125899906842624 := by simp [Sh.fitB]
theorem inB_iff {n m : Int} : Sh.inB n m = true ↔ 0 ≤ n ∧ n ≤ m := by simp [Sh.inB]
theorem bet_ok {t a b f : Int} (h : Sh.betE t a b f = 0) : Sh.fitB t = true ∧ 0 < f ∧ f ≤ 1125899906842624 ∧ 0 ≤ a ∧ a ≤ b ∧ b ≤ f := by
  unfold Sh.betE at h
  split at h
  · rename_i hw
    obtain ⟨h1, h2, h3⟩ := Sh.whole_zero hw
    split at h
    · rename_i hi
      have i1 := inB_iff.1 hi.1
      have i2 := inB_iff.1 hi.2
      split at h
      · cases h
      · exact ⟨h1, h2, h3, i1.1, by omega, i2.2⟩
    · cases h
  · rename_i hw; exact absurd h hw
theorem whole_ok {t f : Int} (h : Sh.fitB t = true) (h1 : 0 < f) (h2 : f ≤ 1125899906842624) : Sh.wholeE t f = 0 := by
  unfold Sh.wholeE
  rw [if_pos h, if_neg (by omega), if_pos (inB_iff.2 ⟨by omega, h2⟩)]
theorem bet_is {t a b f : Int} (h : Sh.fitB t = true) (h1 : 0 < f) (h2 : f ≤ 1125899906842624) (ha : 0 ≤ a) (hab : a ≤ b) (hb : b ≤ f) : Sh.betE t a b f = 0 ∧ Sh.betR t a b f = Sh.upV t b f - Sh.upV t a f := by
  have e : Sh.betE t a b f = 0 := by
    unfold Sh.betE
    rw [if_pos (whole_ok h h1 h2), if_pos ⟨inB_iff.2 ⟨ha, by omega⟩, inB_iff.2 ⟨by omega, hb⟩⟩, if_neg (by omega)]
  exact ⟨e, by unfold Sh.betR; rw [if_pos e]⟩
theorem bet_fit (t a b f : Int) : Sh.fitB (Sh.betR t a b f) = true := by
  by_cases h : Sh.betE t a b f = 0
  · obtain ⟨h1, h2, h3, h4, h5, h6⟩ := bet_ok h
    rw [(bet_is h1 h2 h3 h4 h5 h6).2]
    obtain ⟨s1, s2⟩ := up_step t a b f h4 h5 h6 h2
    have := fit_iff.1 h1
    apply fit_iff.2
    by_cases ht : t < 0
    · have := s2 ht; omega
    · have := s1 (by omega); omega
  · unfold Sh.betR; rw [if_neg h]; decide
theorem per_fit (y i n : Int) : Sh.fitB (perV y i n) = true := bet_fit _ _ _ _

/-- What is paid for a piece of the days x up to z, of a period of the days a up to b. -/
def amtE (i n Y P : Int) : Int := if (Ra.ofVE Y P 1).2 = 0 then perE (Ra.ofVE Y P 1).1 i n else (Ra.ofVE Y P 1).2
def amtV (a b i n x z Y P : Int) : Int := if amtE i n Y P = 0 then Sh.upV (perV (Ra.ofVE Y P 1).1 i n) (z - a) (b - a) - Sh.upV (perV (Ra.ofVE Y P 1).1 i n) (x - a) (b - a) else 0

set_option maxHeartbeats 4000000 in
set_option maxRecDepth 100000 in
theorem amount_any (py pd a b i n x z Y P : Int) (w : World) (ha : in64 a) (hb : in64 b) (hi : in64 i) (h1 : a ≤ x) (h2 : x < z) (h3 : z ≤ b) (h4 : b - a ≤ 366) :
    Calls Tryd.prog 11 #[.agg #[.int .i64 x, .int .i64 z, .int .i64 Y, .int .i64 P], .agg #[.int .i64 py, .int .i64 i, .int .i64 n, .int .i64 a, .int .i64 b, .int .i64 pd]] w
    fun e w' => e = .returned (.tuple #[.int .i64 (amtV a b i n x z Y P), .int .i64 (amtE i n Y P)]) ∧ Below w.heap.size w w' := by
  unfold amtV amtE
  obtain ⟨W0, hW0⟩ : ∃ W0, W0 = (w.alloc (.cells #[.int .i64 x, .int .i64 z, .int .i64 Y, .int .i64 P] 41)).alloc (.cells #[.int .i64 py, .int .i64 i, .int .i64 n, .int .i64 a, .int .i64 b, .int .i64 pd] 36) := ⟨_, rfl⟩
  have hb0 : Below w.heap.size w W0 := by rw [hW0]; exact ((Below.refl w.heap.size w).alloc (Nat.le_refl _) _).alloc (by simp) _
  have hz1 : (w.alloc (.cells #[.int .i64 x, .int .i64 z, .int .i64 Y, .int .i64 P] 41)).heap.size = w.heap.size + 1 := by simp
  have u0 : W0.cell? ⟨w.heap.size, 0, none⟩ = some (.int .i64 x) := by rw [hW0, World.cell?_alloc_lt _ _ _ (by simp), World.cell?_alloc_new]; rfl
  have u1 : W0.cell? ⟨w.heap.size, 1, none⟩ = some (.int .i64 z) := by rw [hW0, World.cell?_alloc_lt _ _ _ (by simp), World.cell?_alloc_new]; rfl
  have u2 : W0.cell? ⟨w.heap.size, 2, none⟩ = some (.int .i64 Y) := by rw [hW0, World.cell?_alloc_lt _ _ _ (by simp), World.cell?_alloc_new]; rfl
  have u3 : W0.cell? ⟨w.heap.size, 3, none⟩ = some (.int .i64 P) := by rw [hW0, World.cell?_alloc_lt _ _ _ (by simp), World.cell?_alloc_new]; rfl
  have v0 : W0.cell? ⟨w.heap.size + 1, 0, none⟩ = some (.int .i64 py) := by rw [hW0, ← hz1, World.cell?_alloc_new]; rfl
  have v1 : W0.cell? ⟨w.heap.size + 1, 1, none⟩ = some (.int .i64 i) := by rw [hW0, ← hz1, World.cell?_alloc_new]; rfl
  have v2 : W0.cell? ⟨w.heap.size + 1, 2, none⟩ = some (.int .i64 n) := by rw [hW0, ← hz1, World.cell?_alloc_new]; rfl
  have v3 : W0.cell? ⟨w.heap.size + 1, 3, none⟩ = some (.int .i64 a) := by rw [hW0, ← hz1, World.cell?_alloc_new]; rfl
  have v4 : W0.cell? ⟨w.heap.size + 1, 4, none⟩ = some (.int .i64 b) := by rw [hW0, ← hz1, World.cell?_alloc_new]; rfl
  have v5 : W0.cell? ⟨w.heap.size + 1, 5, none⟩ = some (.int .i64 pd) := by rw [hW0, ← hz1, World.cell?_alloc_new]; rfl
  have KP : Hid (∀ w', Below W0.heap.size W0 w' → (w'.cell? ⟨w.heap.size, 0, none⟩ = some (.int .i64 x) ∧ w'.cell? ⟨w.heap.size, 1, none⟩ = some (.int .i64 z)) ∧ w'.cell? ⟨w.heap.size + 1, 0, none⟩ = some (.int .i64 py) ∧ w'.cell? ⟨w.heap.size + 1, 1, none⟩ = some (.int .i64 i) ∧ w'.cell? ⟨w.heap.size + 1, 2, none⟩ = some (.int .i64 n) ∧ w'.cell? ⟨w.heap.size + 1, 3, none⟩ = some (.int .i64 a) ∧ w'.cell? ⟨w.heap.size + 1, 4, none⟩ = some (.int .i64 b) ∧ w'.cell? ⟨w.heap.size + 1, 5, none⟩ = some (.int .i64 pd)) :=
    Lib.hid (fun w' h => ⟨⟨(h.cell (World.block_lt_of_cell? W0 _ u0)).trans u0, (h.cell (World.block_lt_of_cell? W0 _ u1)).trans u1⟩, (h.cell (World.block_lt_of_cell? W0 _ v0)).trans v0, (h.cell (World.block_lt_of_cell? W0 _ v1)).trans v1, (h.cell (World.block_lt_of_cell? W0 _ v2)).trans v2, (h.cell (World.block_lt_of_cell? W0 _ v3)).trans v3, (h.cell (World.block_lt_of_cell? W0 _ v4)).trans v4, (h.cell (World.block_lt_of_cell? W0 _ v5)).trans v5⟩)
  have HO := Lib.hid (fun W => Ra.of_any Y P 1 W)
  have HL := Lib.hid (fun W => Sp.Length_any a b W ha hb)
  have hLk : Sp.cut62 (Sp.lenS (a, b)) = b - a := by
    unfold Sp.cut62 Sp.lenS
    dsimp only
    repeat' split
    all_goals omega
  rw [hLk] at HL
  generalize Ra.ofVE Y P 1 = q at HO ⊢
  obtain ⟨qv, qe⟩ := q
  dsimp only at HO ⊢
  have HP := Lib.hid (fun W => Period_any py i n a b pd qv W hi)
  have HF := Lib.hid (per_fit qv i n)
  generalize perV qv i n = V at HP HF ⊢
  generalize perE qv i n = E at HP ⊢
  have HB := Lib.hid (fun W => Sh.Between_any V (x - a) (z - a) (b - a) W)
  obtain ⟨bE, bV⟩ := bet_is (t := V) (a := x - a) (b := z - a) (f := b - a) HF.out (by omega) (by omega) (by omega) (by omega) (by omega)
  rw [bE, bV] at HB
  clear bE bV HF v0 v1 v2 v3 v4 v5 u0 u1 hLk hz1
  generalize Sh.upV V (z - a) (b - a) = X1 at HB ⊢
  generalize Sh.upV V (x - a) (b - a) = X2 at HB ⊢
  by_cases e0 : qe = 0
  · subst e0
    rw [if_pos rfl]
    by_cases e1 : E = 0
    · subst e1
      rw [if_pos rfl]
      unfold in64 at ha hb
      go_enter Tryd.func11, Tryd.ntmps11
      go_wp2_with fail
      rw [← hW0]
      refine (HO.out _).mono ?_
      rintro e w1 ⟨rfl, hb1⟩
      have hk1 := hb0.trans (hb1.mono hb0.size)
      obtain ⟨-, x0, x1, x2, x3, x4, x5⟩ := KP.out w1 hb1
      go_wp2_with fail
      refine (HP.out _).mono ?_
      rintro e w2 ⟨rfl, hb2⟩
      have hbb := hb1.trans (hb2.mono hb1.size)
      have hk2 := hk1.trans (hb2.mono hk1.size)
      clear x0 x1 x2 x3 x4 x5
      obtain ⟨⟨y0, y1⟩, -, -, -, x3, x4, -⟩ := KP.out w2 hbb
      clear hb1 hk1 hb2
      have n1 : IntKind.i64.wrap (x - a) = x - a := IntWalk.i64_in _ (by omega)
      have n2 : IntKind.i64.wrap (z - a) = z - a := IntWalk.i64_in _ (by omega)
      go_wp2
      go_quiet (fail)
      go_wp2_with fail
      refine (HL.out _).mono ?_
      rintro e w3 ⟨rfl, hb3⟩
      have hk3 := (below_drewN hk2 _).trans (hb3.mono hk2.size)
      go_wp2_with fail
      refine (HB.out _).mono ?_
      rintro e w4 ⟨rfl, m, rfl⟩
      go_wp2
      go_ret2
      exact ⟨rfl, below_drewN hk3 m⟩
    · rw [if_neg e1]
      have hE : (E != 0) = true := by simpa using e1
      go_enter Tryd.func11, Tryd.ntmps11
      go_wp2_with fail
      rw [← hW0]
      refine (HO.out _).mono ?_
      rintro e w1 ⟨rfl, hb1⟩
      have hk1 := hb0.trans (hb1.mono hb0.size)
      obtain ⟨-, x0, x1, x2, x3, x4, x5⟩ := KP.out w1 hb1
      go_wp2_with fail
      refine (HP.out _).mono ?_
      rintro e w2 ⟨rfl, hb2⟩
      have hk2 := hk1.trans (hb2.mono hk1.size)
      go_wp2
      go_ret2
      exact ⟨rfl, hk2⟩
  · rw [if_neg e0]
    have hE : (qe != 0) = true := by simpa using e0
    go_enter Tryd.func11, Tryd.ntmps11
    go_wp2_with fail
    rw [← hW0]
    refine (HO.out _).mono ?_
    rintro e w1 ⟨rfl, hb1⟩
    have hk1 := hb0.trans (hb1.mono hb0.size)
    go_wp2
    go_ret2
    exact ⟨rfl, hk1⟩


open Go Go.RowKit Go.Proofs
open Sp (IsSet Mem Canon hasB SetPost SpansIn)

/-- A piece: its days, its year's amount, its part. -/
abbrev Pc := (Int × Int) × Int × Int
def crossB (s t : Sp.Sp) : Bool := decide (s.1 < t.2 ∧ t.1 < s.2)
def anyC (D : List Sp.Sp) (s : Sp.Sp) : Bool := D.any (fun t => crossB s t)
def stepE (a b i n : Int) (D : List Sp.Sp) (S : Int) (q : Pc) : Int :=
  if chkE a b q.1.1 q.1.2 (anyC D q.1) = 0 then (if amtE i n q.2.1 q.2.2 = 0 then Ce.addE S (amtV a b i n q.1.1 q.1.2 q.2.1 q.2.2) else amtE i n q.2.1 q.2.2) else chkE a b q.1.1 q.1.2 (anyC D q.1)
def stepV (a b i n : Int) (S : Int) (q : Pc) : Int := Ce.addV S (amtV a b i n q.1.1 q.1.2 q.2.1 q.2.2)
def salR (a b i n : Int) : List Pc → List Sp.Sp → Int → Int × Int
  | [], _, S => (S, 0)
  | q :: r, D, S => if stepE a b i n D S q = 0 then salR a b i n r (D ++ [q.1]) (stepV a b i n S q) else (0, stepE a b i n D S q)
def salVE (a b i n : Int) (L : List Pc) : Int × Int := if 64 < L.length then (0, 5) else salR a b i n L [] 0

theorem chk_zero {a b x y : Int} {cr : Bool} (h : chkE a b x y cr = 0) : x < y ∧ a ≤ x ∧ y ≤ b ∧ b - a ≤ 366 ∧ cr = false := by
  unfold chkE at h
  split at h
  · cases h
  · split at h
    · cases h
    · rename_i h1 h2
      exact ⟨by omega, by omega, by omega, by omega, by simpa using h2⟩
theorem cross_iff {D : List Sp.Sp} {x y : Int} (hD : ∀ t ∈ D, t.1 < t.2) (h : x < y) : anyC D (x, y) = true ↔ ∃ d, (hasB [(x, y)] d && hasB D d) = true := by
  unfold anyC
  rw [List.any_eq_true]
  constructor
  · rintro ⟨t, ht, hc⟩
    have h1 := hD t ht
    unfold crossB at hc
    simp only [decide_eq_true_eq] at hc
    refine ⟨max x t.1, ?_⟩
    rw [(one_has x y _).2 ⟨by omega, by omega⟩, Sp.hasB_iff.2 ⟨t, ht, by omega, by omega⟩]; rfl
  · rintro ⟨d, hd⟩
    rw [Bool.and_eq_true] at hd
    obtain ⟨t, ht, h1, h2⟩ := Sp.hasB_iff.1 hd.2
    have h3 := (one_has x y d).1 hd.1
    refine ⟨t, ht, ?_⟩
    unfold crossB
    simp only [decide_eq_true_eq]
    omega
theorem cross_ex (D : List Sp.Sp) (x y : Int) : ∃ cr : Bool, (cr = true ↔ ∃ d, (hasB [(x, y)] d && hasB D d) = true) := by
  classical
  exact ⟨decide (∃ d, (hasB [(x, y)] d && hasB D d) = true), by simp⟩
theorem chk_cr {D : List Sp.Sp} {a b x y : Int} (hD : ∀ t ∈ D, t.1 < t.2) {cr : Bool} (h : cr = true ↔ ∃ d, (hasB [(x, y)] d && hasB D d) = true) : chkE a b x y cr = chkE a b x y (anyC D (x, y)) := by
  by_cases hxy : y ≤ x
  · unfold chkE; rw [if_pos (.inl hxy), if_pos (.inl hxy)]
  · have : cr = anyC D (x, y) := by
      rw [Bool.eq_iff_iff, h, cross_iff hD (by omega)]
    rw [this]
theorem fitB_fits (t : Int) : Ce.fitsB t = Sh.fitB t := rfl
theorem add_ok {a b : Int} (h : Ce.addE a b = 0) : Sh.fitB a = true ∧ Sh.fitB b = true ∧ Sh.fitB (a + b) = true ∧ Ce.addV a b = a + b := by
  unfold Ce.addE at h
  split at h
  · rename_i hf
    unfold Ce.inE at h
    split at h
    · rename_i hs
      refine ⟨hf.1, hf.2, hs, ?_⟩
      unfold Ce.addV Ce.inV
      rw [if_pos hf, if_pos hs]
    · cases h
  · cases h
theorem add_is {a b : Int} (h1 : Sh.fitB a = true) (h2 : Sh.fitB b = true) (h3 : Sh.fitB (a + b) = true) : Ce.addE a b = 0 ∧ Ce.addV a b = a + b := by
  have hf : Ce.fitsB a = true ∧ Ce.fitsB b = true := ⟨h1, h2⟩
  have h3' : Ce.fitsB (a + b) = true := h3
  unfold Ce.addE Ce.addV Ce.inE Ce.inV
  rw [if_pos hf, if_pos hf, if_pos h3', if_pos h3']
  exact ⟨rfl, rfl⟩
theorem add_fit (a b : Int) : Sh.fitB (Ce.addV a b) = true := fit_iff.2 (Ce.addV_bd a b)
theorem sum_two {S A : Int} (h : Sh.fitB S = true) : Ce.sumVE 0 [S, A] = if Ce.addE S A = 0 then (Ce.addV S A, 0) else (0, Ce.addE S A) := by
  obtain ⟨h1, h2⟩ := add_is (a := 0) (b := S) (by decide) h (by rw [Int.zero_add]; exact h)
  rw [Int.zero_add] at h2
  unfold Ce.sumVE
  rw [if_pos h1, h2]
  unfold Ce.sumVE
  rfl

/-- Pieces in memory. -/
def PcsIn (w : World) (p : Option Addr) (L : List Pc) : Prop :=
  L = [] ∨ ∃ b o, p = some ⟨b, o, none⟩ ∧ ∀ j, j < L.length → w.cell? ⟨b, o + j * 4, none⟩ = some (.int .i64 (L.getD j ((0, 0), 0, 0)).1.1) ∧ w.cell? ⟨b, o + j * 4 + 1, none⟩ = some (.int .i64 (L.getD j ((0, 0), 0, 0)).1.2) ∧
    w.cell? ⟨b, o + j * 4 + 2, none⟩ = some (.int .i64 (L.getD j ((0, 0), 0, 0)).2.1) ∧ w.cell? ⟨b, o + j * 4 + 3, none⟩ = some (.int .i64 (L.getD j ((0, 0), 0, 0)).2.2)
theorem PcsIn.below {w w' : World} {p : Option Addr} {L : List Pc} {B : Nat} (h : PcsIn w p L) (hb : Below B w w') (hB : w.heap.size ≤ B) : PcsIn w' p L := by
  rcases h with h | ⟨b, o, rfl, hc⟩
  · exact .inl h
  · refine .inr ⟨b, o, rfl, fun j hj => ?_⟩
    obtain ⟨c0, c1, c2, c3⟩ := hc j hj
    have hlt : b < B := Nat.lt_of_lt_of_le (World.block_lt_of_cell? w _ c0) hB
    exact ⟨(hb.cell (p := ⟨b, _, none⟩) hlt).trans c0, (hb.cell (p := ⟨b, _, none⟩) hlt).trans c1, (hb.cell (p := ⟨b, _, none⟩) hlt).trans c2, (hb.cell (p := ⟨b, _, none⟩) hlt).trans c3⟩
/-- The days of the first pieces. -/
def dys (L : List Pc) : List Sp.Sp := L.map (·.1)
theorem take_next {L : List Pc} {k : Nat} (h : k < L.length) : L.take (k + 1) = L.take k ++ [L.getD k ((0, 0), 0, 0)] := by
  rw [List.take_add_one]
  simp [List.getD, h]
theorem drop_next {L : List Pc} {k : Nat} (h : k < L.length) : L.drop k = L.getD k ((0, 0), 0, 0) :: L.drop (k + 1) := by
  rw [List.drop_eq_getElem_cons h]
  simp [List.getD, h]
theorem dys_next {L : List Pc} {k : Nat} (h : k < L.length) : dys (L.take (k + 1)) = dys (L.take k) ++ [(L.getD k ((0, 0), 0, 0)).1] := by
  rw [take_next h]; unfold dys; simp

end Go.Proofs.YtogdiiengbmiiaaDoor
