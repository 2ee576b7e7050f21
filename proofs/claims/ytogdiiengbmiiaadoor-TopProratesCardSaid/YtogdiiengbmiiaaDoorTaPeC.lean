/-
  What is proved: texts of other seats, joined for this one: what each theorem says. Conditions: as each says.
-/
import Derived.Test.YtogdiiengbmiiaaDoorTaPeB
import Derived.Laws.AppendOwn
import Derived.Laws.AppendOwnNone
import Derived.Laws.OwnMore
import Derived.Deep.AppendLies
import Derived.Deep.AppendSrc
import Derived.Maps.AppendAt
import Derived.Deep.Draws
namespace Go.Proofs.YtogdiiengbmiiaaDoor.Pe
open Go Go.RowKit Go.Proofs
set_option linter.unusedVariables false

/-- Periods of a year as cells, the first of them with the number i + 1. -/
def perC (y n l : Int) : Nat → List (Int × Int) → List Value
  | _, [] => []
  | i, s :: r => [.int .i64 y, .int .i64 ((i + 1 : Nat) : Int), .int .i64 n, .int .i64 s.1, .int .i64 s.2, .int .i64 (payV s.2 l)] ++ perC y n l (i + 1) r
theorem perC_len (y n l : Int) : ∀ (K : List (Int × Int)) (i : Nat), (perC y n l i K).length = K.length * 6
  | [], _ => rfl
  | s :: r, i => by
    show (([.int .i64 y, .int .i64 ((i + 1 : Nat) : Int), .int .i64 n, .int .i64 s.1, .int .i64 s.2, .int .i64 (payV s.2 l)] : List Value) ++ perC y n l (i + 1) r).length = (r.length + 1) * 6
    rw [List.length_append, perC_len y n l r]; simp; omega
theorem perC_app (y n l : Int) (s : Int × Int) : ∀ (K : List (Int × Int)) (i : Nat), perC y n l i (K ++ [s]) = perC y n l i K ++ [.int .i64 y, .int .i64 ((i + K.length + 1 : Nat) : Int), .int .i64 n, .int .i64 s.1, .int .i64 s.2, .int .i64 (payV s.2 l)]
  | [], i => rfl
  | t :: r, i => by
    show _ ++ perC y n l (i + 1) (r ++ [s]) = _
    rw [perC_app y n l s r (i + 1), show i + 1 + r.length + 1 = i + (t :: r).length + 1 by simp; omega, ← List.append_assoc]; rfl
theorem perC_one (y n l : Int) : ∀ (K : List (Int × Int)) (i : Nat), ∀ u ∈ perC y n l i K, u.oneCell' = true
  | [], _, u, hu => by cases hu
  | s :: r, i, u, hu => by
    rcases List.mem_append.1 hu with h | h
    · simp at h; rcases h with rfl | rfl | rfl | rfl | rfl | rfl <;> rfl
    · exact perC_one y n l r (i + 1) u h
theorem perC_at (y n l : Int) : ∀ (K : List (Int × Int)) (i k : Nat), k < K.length →
    (perC y n l i K)[k * 6]? = some (.int .i64 y) ∧ (perC y n l i K)[k * 6 + 1]? = some (.int .i64 ((i + k + 1 : Nat) : Int)) ∧ (perC y n l i K)[k * 6 + 2]? = some (.int .i64 n) ∧
    (perC y n l i K)[k * 6 + 3]? = some (.int .i64 (K.getD k (0, 0)).1) ∧ (perC y n l i K)[k * 6 + 4]? = some (.int .i64 (K.getD k (0, 0)).2) ∧ (perC y n l i K)[k * 6 + 5]? = some (.int .i64 (payV (K.getD k (0, 0)).2 l))
  | s :: r, i, 0, _ => ⟨rfl, rfl, rfl, rfl, rfl, rfl⟩
  | s :: r, i, k + 1, h => by
    obtain ⟨a, b, c, d, e, f⟩ := perC_at y n l r (i + 1) k (by simpa using h)
    have e0 : ∀ j, (perC y n l i (s :: r))[(k + 1) * 6 + j]? = (perC y n l (i + 1) r)[k * 6 + j]? := fun j => by
      show (([.int .i64 y, .int .i64 ((i + 1 : Nat) : Int), .int .i64 n, .int .i64 s.1, .int .i64 s.2, .int .i64 (payV s.2 l)] : List Value) ++ perC y n l (i + 1) r)[(k + 1) * 6 + j]? = _
      rw [List.getElem?_append_right (by simp; omega)]
      congr 1
      simp; omega
    refine ⟨(e0 0).trans a, ?_, (e0 2).trans c, (e0 3).trans d, (e0 4).trans e, (e0 5).trans f⟩
    rw [e0 1, b]
    congr 2
    omega
/-- Periods of a year in memory. -/
def PersIn (w : World) (p : Option Addr) (y n l : Int) (K : List (Int × Int)) : Prop :=
  K = [] ∨ ∃ b o, p = some ⟨b, o, none⟩ ∧ ∀ k, k < K.length → w.cell? ⟨b, o + k * 6, none⟩ = some (.int .i64 y) ∧ w.cell? ⟨b, o + k * 6 + 1, none⟩ = some (.int .i64 ((k + 1 : Nat) : Int)) ∧ w.cell? ⟨b, o + k * 6 + 2, none⟩ = some (.int .i64 n) ∧
    w.cell? ⟨b, o + k * 6 + 3, none⟩ = some (.int .i64 (K.getD k (0, 0)).1) ∧ w.cell? ⟨b, o + k * 6 + 4, none⟩ = some (.int .i64 (K.getD k (0, 0)).2) ∧ w.cell? ⟨b, o + k * 6 + 5, none⟩ = some (.int .i64 (payV (K.getD k (0, 0)).2 l))
theorem PersIn.below {w w' : World} {p : Option Addr} {y n l : Int} {K : List (Int × Int)} (h : PersIn w p y n l K) (hb : Below w.heap.size w w') : PersIn w' p y n l K := by
  rcases h with h | ⟨b, o, rfl, hc⟩
  · exact .inl h
  · refine .inr ⟨b, o, rfl, fun k hk => ?_⟩
    obtain ⟨a, c, d, e, f, g⟩ := hc k hk
    exact ⟨stay hb a, stay hb c, stay hb d, stay hb e, stay hb f, stay hb g⟩
theorem own_slice {w : World} {base : Nat} {E : TypeId} {s n : Nat} {v : Value} {xs : List Value} (h : w.ownsRow base E s v n xs) : ∃ p c, v = .slice p n c ∧ n ≤ c := by
  rcases h.2 with ⟨rfl, rfl⟩ | ⟨g, c, cur, rfl, _, _, h2, _⟩
  · exact ⟨none, 0, rfl, Nat.le_refl _⟩
  · exact ⟨_, _, rfl, h2⟩
theorem own_below {w w' : World} {base B : Nat} {E : TypeId} {s n : Nat} {v : Value} {xs : List Value} (h : w.ownsRow base E s v n xs) (hb : Below B w w') (hB : w.heap.size ≤ B) : w'.ownsRow base E s v n xs := by
  obtain ⟨h1, h2⟩ := h
  refine ⟨h1, ?_⟩
  rcases h2 with h2 | ⟨g, c, cur, rfl, hg, hh, h3⟩
  · exact .inl h2
  · have hlt : g < w.heap.size := by
      rcases Nat.lt_or_ge g w.heap.size with hlt | hge
      · exact hlt
      · rw [Array.getElem?_eq_none hge] at hh; cases hh
    exact .inr ⟨g, c, cur, rfl, hg, (hb.block g (by omega)).trans hh, h3⟩
theorem info_of {P : Program} {t : TypeId} {z : Option Value} {s b : Nat} (h : (P.info? t).map (fun i => (i.zero, i.size, i.bytes)) = some (z, s, b)) : ∃ i, P.info? t = some i ∧ i.zero = z ∧ i.size = s ∧ i.bytes = b := by
  obtain ⟨i, hi, he⟩ := Option.map_eq_some_iff.1 h
  injection he with h1 h2
  injection h2 with h2 h3
  exact ⟨i, hi, h1, h2, h3⟩
theorem infoPer : (Tryd.prog.info? 36).map (fun i => (i.zero, i.size, i.bytes)) = some (some (.agg #[.int .i64 0, .int .i64 0, .int .i64 0, .int .i64 0, .int .i64 0, .int .i64 0]), 6, 48) := by kernel_rfl

/-- What a region that gathers periods keeps: older cells apart from the row's, and what lies below. -/
def Jn (W0 : World) (v : Value) (base : Nat) (w w' : World) : Prop := (∀ b o, b < W0.heap.size → v.ownBlock ≠ some b → w'.cell? ⟨b, o, none⟩ = W0.cell? ⟨b, o, none⟩) ∧ Below base w w' ∧ W0.heap.size ≤ w'.heap.size ∧ base ≤ W0.heap.size
theorem Jn.start {W0 : World} {v : Value} {base : Nat} {w : World} (h : Below base w W0) (hB : base ≤ W0.heap.size) : Jn W0 v base w W0.drew := ⟨fun _ _ _ _ => rfl, h.drew, Nat.le_refl _, hB⟩
theorem Jn.drew {W0 : World} {v : Value} {base : Nat} {w w' : World} (h : Jn W0 v base w w') : Jn W0 v base w w'.drew := ⟨fun b o h1 h2 => h.1 b o h1 h2, h.2.1.drew, h.2.2.1, h.2.2.2⟩
theorem Jn.call {W0 : World} {v : Value} {base : Nat} {w w' w'' : World} (h : Jn W0 v base w w') (hb : Below w'.heap.size w' w'') : Jn W0 v base w w'' :=
  ⟨fun b o h1 h2 => (bcell hb b o (Nat.lt_of_lt_of_le h1 h.2.2.1)).trans (h.1 b o h1 h2), h.2.1.trans (hb.mono (Nat.le_trans h.2.2.2 h.2.2.1)), Nat.le_trans h.2.2.1 hb.size, h.2.2.2⟩
theorem Jn.alloc {W0 : World} {v : Value} {base : Nat} {w w' : World} (h : Jn W0 v base w w') (o : Obj) : Jn W0 v base w (w'.alloc o) := h.call ((Below.refl _ _).alloc (Nat.le_refl _) o)
theorem Jn.grown {W0 : World} {v : Value} {base : Nat} {w w' w'' : World} (h : Jn W0 v base w w') (hg : w'.grownBy w'' v.ownBlock) (hk : ∀ k, v.ownBlock = some k → base ≤ k) : Jn W0 v base w w'' := by
  have hb := h.2.1.grown hg (Nat.le_trans h.2.2.2 h.2.2.1) hk
  refine ⟨fun b o h1 h2 => ?_, hb, ?_, h.2.2.2⟩
  · rw [hg.cell_far ⟨b, o, none⟩ (Nat.lt_of_lt_of_le h1 h.2.2.1) (Ne.symm h2)]
    exact h.1 b o h1 h2
  · exact Nat.le_trans h.2.2.1 hg.size
theorem Jn.cell {W0 : World} {v u : Value} {base : Nat} {w w' : World} (h : Jn W0 v base w w') {b o : Nat} (hn : v.ownBlock ≠ some b) (x : W0.cell? ⟨b, o, none⟩ = some u) : w'.cell? ⟨b, o, none⟩ = some u :=
  (h.1 b o (World.block_lt_of_cell? _ _ x) hn).trans x


open Go Go.RowKit Go.Proofs
set_option linter.unusedVariables false

theorem Upto.len {k f y d : Int} {K : List (Int × Int)} (h : Upto k f y d K) : K.length ≤ 400 := by
  have h3 := jan_succ y
  have := lp_bd y
  have := rows_len (lo := jan y - 31) (hi := jan (y + 1)) h.1 fun s hs => by
    obtain ⟨⟨b, -, -, c, d⟩, -⟩ := (h.2 s).1 hs
    have := b.len
    omega
  omega
theorem add_at (g j : Nat) : (⟨g, 0, none⟩ : Addr).add j = ⟨g, j, none⟩ := by unfold Addr.add; split <;> simp_all
theorem own_cells {w : World} {base : Nat} {E : TypeId} {s n : Nat} {v : Value} {xs : List Value} (h : w.ownsRow base E s v n xs) (hn : 0 < n) :
    ∃ g c, v = .slice (some ⟨g, 0, none⟩) n c ∧ base ≤ g ∧ g < w.heap.size ∧ n ≤ c ∧ (∀ j u, xs[j]? = some u → w.cell? ⟨g, j, none⟩ = some u) ∧ ∀ j, w.frozen? ⟨g, j, none⟩ = false := by
  obtain ⟨g, c, rfl, hg, hlt⟩ := h.form hn
  refine ⟨g, c, rfl, hg, hlt, ?_, (fun j u hu => by have := h.cells (g := g) rfl j u hu; rwa [add_at] at this), fun j => h.frozenAt j⟩
  rcases h.2 with ⟨h1, _⟩ | ⟨g', c', cur, h1, _, _, h2, _⟩
  · cases h1
  · injection h1 with _ _ h3; omega
theorem own_next {w : World} {base : Nat} {E : TypeId} {v : Value} {y l a b : Int} {K : List (Int × Int)} (h : w.ownsRow base E 6 v (K.length + 1) (perC y 0 l 0 K ++ [.int .i64 y, .int .i64 ((K.length : Int) + 1), .int .i64 0, .int .i64 a, .int .i64 b, .int .i64 (payV b l)])) :
    w.ownsRow base E 6 v (K ++ [(a, b)]).length (perC y 0 l 0 (K ++ [(a, b)])) := by
  rw [perC_app, List.length_append, show ((0 + K.length + 1 : Nat) : Int) = (K.length : Int) + 1 by omega]
  exact h

/-- Periods of which the first ones are told how many there are. -/
def PerI (w : World) (g : Nat) (y n l : Int) (K : List (Int × Int)) (i : Nat) : Prop := (∀ k, k < K.length → w.cell? ⟨g, k * 6, none⟩ = some (.int .i64 y) ∧ w.cell? ⟨g, k * 6 + 1, none⟩ = some (.int .i64 ((k + 1 : Nat) : Int)) ∧ w.cell? ⟨g, k * 6 + 2, none⟩ = some (.int .i64 (if k < i then n else 0)) ∧
    w.cell? ⟨g, k * 6 + 3, none⟩ = some (.int .i64 (K.getD k (0, 0)).1) ∧ w.cell? ⟨g, k * 6 + 4, none⟩ = some (.int .i64 (K.getD k (0, 0)).2) ∧ w.cell? ⟨g, k * 6 + 5, none⟩ = some (.int .i64 (payV (K.getD k (0, 0)).2 l))) ∧ ∀ j, w.frozen? ⟨g, j, none⟩ = false
theorem PerI.start {w : World} {g : Nat} {y n l : Int} {K : List (Int × Int)} (h : ∀ j u, (perC y 0 l 0 K)[j]? = some u → w.cell? ⟨g, j, none⟩ = some u) (hf : ∀ j, w.frozen? ⟨g, j, none⟩ = false) : PerI w g y n l K 0 :=
  ⟨fun k hk => by
    obtain ⟨a, b, c, d, e, f⟩ := perC_at y 0 l K 0 k hk
    rw [if_neg (Nat.not_lt_zero _)]
    rw [Nat.zero_add] at b
    exact ⟨h _ _ a, h _ _ b, h _ _ c, h _ _ d, h _ _ e, h _ _ f⟩, hf⟩
theorem PerI.next {w : World} {g : Nat} {y n l : Int} {K : List (Int × Int)} {i : Nat} (h : PerI w g y n l K i) (hi : i < K.length) : PerI (w.setCell ⟨g, i * 6 + 2, none⟩ (.int .i64 n)) g y n l K (i + 1) := by
  obtain ⟨h1, h2⟩ := h
  refine ⟨fun k hk => ?_, fun j => (World.frozen?_setCell ..).trans (h2 j)⟩
  obtain ⟨a, b, c, d, e, f⟩ := h1 k hk
  have off : ∀ o, o ≠ i * 6 + 2 → (w.setCell ⟨g, i * 6 + 2, none⟩ (.int .i64 n)).cell? ⟨g, o, none⟩ = w.cell? ⟨g, o, none⟩ := fun o ho => World.cell?_setCell_other w _ _ _ (fun e => by injection e with _ e; omega)
  refine ⟨(off _ (by omega)).trans a, (off _ (by omega)).trans b, ?_, (off _ (by omega)).trans d, (off _ (by omega)).trans e, (off _ (by omega)).trans f⟩
  by_cases hki : k = i
  · subst hki
    rw [if_pos (by omega)]
    exact World.cell?_setCell_same _ _ _ c
  · rw [off _ (by omega), c]
    congr 2
    by_cases h3 : k < i
    · rw [if_pos h3, if_pos (by omega)]
    · rw [if_neg h3, if_neg (by omega)]
theorem PerI.done {w : World} {g : Nat} {y n l : Int} {K : List (Int × Int)} {i : Nat} (h : PerI w g y n l K i) (hi : K.length ≤ i) : PersIn w (some ⟨g, 0, none⟩) y n l K :=
  .inr ⟨g, 0, rfl, fun k hk => by
    obtain ⟨a, b, c, d, e, f⟩ := h.1 k hk
    rw [if_pos (by omega)] at c
    rw [Nat.zero_add]
    exact ⟨a, b, c, d, e, f⟩⟩

/-- What is told of a year's periods. -/
def PerPost (k f l y : Int) (w : World) (e : Ending) (w' : World) : Prop := ∃ (K : List (Int × Int)) (p : Option Addr) (c : Nat), IsYear k f y K ∧ e = .returned (.slice p K.length c) ∧ PersIn w' p y K.length l K ∧ Below w.heap.size w w'
theorem jan_y {y : Int} (h1 : 1900 ≤ y) (h2 : y ≤ 2199) : -25567 ≤ jan y ∧ jan y + 365 ≤ jan (y + 1) ∧ jan (y + 1) ≤ 84006 := by
  have a := jan_bd y h1 (by omega)
  have b := jan_bd (y + 1) (by omega) (by omega)
  have c := jan_succ y
  have d := lp_bd y
  omega

set_option maxHeartbeats 4000000 in
set_option maxRecDepth 100000 in
theorem periods_any (k f l y : Int) (w : World) (hT : Tabs w) (hc : chkC k f l = 0) (hy1 : 1900 ≤ y) (hy2 : y ≤ 2199) :
    Calls Tryd.prog 8 #[.agg #[.int .i64 k, .int .i64 f, .int .i64 l], .int .i64 y] w (PerPost k f l y w) := by
  obtain ⟨hk, hf, hl1, hl2⟩ := chkC_zero hc
  obtain ⟨j1, j2, j3⟩ := jan_y hy1 hy2
  obtain ⟨W1, hW1⟩ : ∃ W1, W1 = w.alloc (.cells #[.int .i64 k, .int .i64 f, .int .i64 l] 27) := ⟨_, rfl⟩
  have hb0 : Below w.heap.size w W1 := by rw [hW1]; exact (Below.refl w.heap.size w).alloc (Nat.le_refl _) _
  have hz1 : W1.heap.size = w.heap.size + 1 := by rw [hW1]; simp
  have x0 : W1.cell? ⟨w.heap.size, 0, none⟩ = some (.int .i64 k) := by rw [hW1, World.cell?_alloc_new]; rfl
  have x1 : W1.cell? ⟨w.heap.size, 1, none⟩ = some (.int .i64 f) := by rw [hW1, World.cell?_alloc_new]; rfl
  have x2 : W1.cell? ⟨w.heap.size, 2, none⟩ = some (.int .i64 l) := by rw [hW1, World.cell?_alloc_new]; rfl
  have hT1 := hT.stay hb0
  have HLA := Lib.hid (fun W hL => lastDay_any y hy1 hy2 W hL)
  have HFI := Lib.hid (fun W hL => firstDay_any y hy1 hy2 W hL)
  have HU := Lib.hid (Upto.start k f y)
  have HDN : Hid (∀ (d : Int) (K : List (Int × Int)), Upto k f y d K → jan (y + 1) ≤ d → IsYear k f y K) := Lib.hid (fun d K h hd => h.done hd)
  have HAR := Lib.hid (fun d W hT hd => around_any k f l d W hT hk hf hd)
  have HPY := Lib.hid (fun a b W hL h1 h2 => pay_any k f l a b W hL h1 h2 hl1 hl2)
  have HT1 := Lib.hid hT1
  obtain ⟨J, hJ⟩ : ∃ J, J = jan y := ⟨_, rfl⟩
  obtain ⟨J', hJ'⟩ : ∃ J, J = jan (y + 1) := ⟨_, rfl⟩
  have HEN : Hid (∀ a b : Int, Ends k f y a b ↔ Blk k f a b ∧ -25567 ≤ a ∧ b ≤ 84006 ∧ J < b ∧ b ≤ J') := Lib.hid (fun a b => by rw [hJ, hJ']; rfl)
  rw [← hJ] at j1 j2 HFI HU
  rw [← hJ'] at j2 j3 HLA HDN
  clear hJ hJ' hT hT1 hc hk hf
  go_enter Tryd.func8, Tryd.ntmps8
  go_wp2_with fail
  rw [← hW1]
  clear hW1
  refine (HLA.out _ HT1.out.1).mono ?_
  rintro e w2 ⟨rfl, hb2⟩
  go_wp2_with fail
  refine (HFI.out _ (HT1.out.stay hb2).1).mono ?_
  rintro e w3 ⟨rfl, hb3⟩
  have hb4 := hb2.trans (hb3.mono hb2.size)
  clear hb2 hb3
  have hO : Hid (w3.ownsRow W1.heap.size 36 6 (.slice none 0 0) 0 []) := Lib.hid (World.ownsRow_nil _ _ _ _)
  go_wp2
  go_loopw [6, 7] (fun lv dv wr => ∃ (K : List (Int × Int)) (D : Int), dv = .int .i64 D ∧ Hid (Upto k f y D K) ∧ J ≤ D ∧ D ≤ J' + 31 ∧ Hid (wr.ownsRow W1.heap.size 36 6 lv K.length (perC y 0 l 0 K)) ∧ Below W1.heap.size W1 wr) (fun _ dv _ => (J' - RowKit.intOf dv).toNat)
  case atStart => exact ⟨[], J, rfl, HU, by omega, by omega, hO, hb4⟩
  case round =>
    clear hO HU
    obtain ⟨K, D, rfl, HK, hD1, hD2, HO, hb⟩ := hrel
    obtain ⟨p, c, rfl, hnc⟩ := own_slice HO.out
    have hKl := HK.out.len
    by_cases hlt : D < J'
    · have hle : D ≤ J' - 1 := by omega
      have hin : inB D = true := inB_yes (by omega) (by omega)
      have hTr := HT1.out.stay hb
      have y0 := stay hb x0
      have y1 := stay hb x1
      have y2 := stay hb x2
      go_wp2_with fail
      refine (HAR.out D _ hTr hin).mono ?_
      rintro e w5 ⟨a, b, rfl, hB, ha, hbb, hb5⟩
      have HBl := Lib.hid hB
      have hlen := hB.len
      obtain ⟨W6, hW6⟩ : ∃ W6, W6 = w5.alloc (.cells #[.int .i64 a, .int .i64 b] 34) := ⟨_, rfl⟩
      have hb6 : Below w5.heap.size w5 W6 := by rw [hW6]; exact (Below.refl w5.heap.size w5).alloc (Nat.le_refl _) _
      have s0 : W6.cell? ⟨w5.heap.size, 0, none⟩ = some (.int .i64 a) := by rw [hW6, World.cell?_alloc_new]; rfl
      have s1 : W6.cell? ⟨w5.heap.size, 1, none⟩ = some (.int .i64 b) := by rw [hW6, World.cell?_alloc_new]; rfl
      have hb56 := hb5.trans (hb6.mono hb5.size)
      have z0 := stay hb56 y0
      have z1 := stay hb56 y1
      have z2 := stay hb56 y2
      have HO6 := Lib.hid (own_below HO.out hb56 (Nat.le_refl _))
      have hT6 := Lib.hid (hTr.stay hb56)
      have hb7 := hb.trans (hb56.mono hb.size)
      have HWH := Lib.hid (isWhole_any a b W6 hT6.out.1 (by omega) (by omega))
      have hfar : Hid ((Value.slice p K.length c).ownBlock ≠ some w5.heap.size) := Lib.hid (fun h => by
        have h1 := (HO.out.lt _ h).2
        have h2 := hb5.size
        omega)
      clear hB hb5 hb6 hb56 y0 y1 y2 hTr HO hb
      by_cases hbl : b ≤ J'
      · have hbl' : b - 1 ≤ J' - 1 := by omega
        cases hwh : wholeB a b with
        | true =>
          rw [hwh] at HWH
          have hw2 : inB a = true ∧ inB (b - 1) = true := by simpa [wholeB] using hwh
          obtain ⟨q1, q2⟩ := inB_iff.1 hw2.1
          obtain ⟨q3, q4⟩ := inB_iff.1 hw2.2
          have HU2 := Lib.hid (HK.out.add HBl.out ha hbb ((HEN.out a b).2 ⟨HBl.out, by omega, by omega, by omega, by omega⟩))
          clear hw2 hwh q1 q2 q3 q4
          rw [hW6] at s0 s1
          go_wp2_with fail
          rw [← hW6] at s0 s1 ⊢
          refine (HWH.out).mono ?_
          rintro e w8 ⟨rfl, hb8⟩
          have c0 := stay hb8 z0
          have c1 := stay hb8 z1
          have c2 := stay hb8 z2
          have c3 := stay hb8 s0
          have c4 := stay hb8 s1
          have HO8 := Lib.hid (own_below HO6.out hb8 (Nat.le_refl _))
          have hb9 := hb7.trans (hb8.mono hb7.size)
          have hL8 := Lib.hid ((hT6.out.stay hb8).1)
          have hbk : Hid (∀ g, (Value.slice p K.length c).ownBlock = some g → W1.heap.size ≤ g) := Lib.hid (fun g h => (HO8.out.lt _ h).1)
          have hfw : Hid ((Value.slice p K.length c).ownBlock ≠ some w.heap.size) := Lib.hid (fun h => by have := hbk.out _ h; omega)
          have JS := Lib.hid (Jn.start (v := .slice p K.length c) hb9 hb9.size)
          have KP : Hid (∀ w', Jn w8 (.slice p K.length c) W1.heap.size W1 w' → (w'.cell? ⟨w.heap.size, 0, none⟩ = some (.int .i64 k) ∧ w'.cell? ⟨w.heap.size, 1, none⟩ = some (.int .i64 f) ∧ w'.cell? ⟨w.heap.size, 2, none⟩ = some (.int .i64 l) ∧ w'.cell? ⟨w5.heap.size, 0, none⟩ = some (.int .i64 a) ∧ w'.cell? ⟨w5.heap.size, 1, none⟩ = some (.int .i64 b)) ∧ Jn w8 (.slice p K.length c) W1.heap.size W1 w') := Lib.hid (fun w' h => ⟨⟨h.cell hfw.out c0, h.cell hfw.out c1, h.cell hfw.out c2, h.cell hfar.out c3, h.cell hfar.out c4⟩, h⟩)
          have i1 : IntKind.i64.wrap ((K.length : Int) + 1) = (K.length : Int) + 1 := IntWalk.i64_in _ (by omega)
          obtain ⟨i0, hi0, hz0, hz1, hz2⟩ := info_of infoPer
          have HI0 := Lib.hid (And.intro hi0 (And.intro hz0 (And.intro hz1 hz2)))
          have hbz := hb9.size
          clear z0 z1 z2 s0 s1 HO6 hb7 hb8 hT6 HWH hW6 hi0 hz0 hz1 hz2
          go_wp2
          go_region_held3 (fun w' => (w'.cell? ⟨w.heap.size, 0, none⟩ = some (.int .i64 k) ∧ w'.cell? ⟨w.heap.size, 1, none⟩ = some (.int .i64 f) ∧ w'.cell? ⟨w.heap.size, 2, none⟩ = some (.int .i64 l) ∧ w'.cell? ⟨w5.heap.size, 0, none⟩ = some (.int .i64 a) ∧ w'.cell? ⟨w5.heap.size, 1, none⟩ = some (.int .i64 b)) ∧ Jn w8 (.slice p K.length c) W1.heap.size W1 w') (first | exact KP.out _ JS.out | exact KP.out _ (by assumption) | exact KP.out _ (Jn.alloc (by assumption) _) | exact KP.out _ (Jn.drew (Jn.alloc (by assumption) _))) (first | (go_at_call 20; refine (HPY.out a b _ (by exact hL8.out) (by omega) (by omega)).mono ?_; rintro e wx ⟨rfl, hbx⟩; have hkx : Jn w8 (.slice p K.length c) W1.heap.size W1 wx := Jn.call (And.right (by assumption)) hbx; have hOx : Hid (wx.ownsRow W1.heap.size 36 6 (.slice p K.length c) K.length (perC y 0 l 0 K)) := Lib.hid (own_below (w := w8.drew) (HO8.out.drew) hbx (Nat.le_refl _)); have hzx : W1.heap.size ≤ wx.heap.size := Nat.le_trans hkx.2.2.2 hkx.2.2.1) | (refine step_append_lies _ (by rfl) _ _ _ (by rfl) W1.heap.size 36 i0 _ 6 48 Tryd.underlying28 HI0.out.1 HI0.out.2.1 HI0.out.2.2.1 HI0.out.2.2.2 rfl (by omega) (.slice p K.length c) K.length _ (by rfl) (by first | exact hOx.out.alloc _ | exact (hOx.out.alloc _).drew) ⟨wx.heap.size, 0, none⟩ 1 1 [.int .i64 y, .int .i64 ((K.length : Int) + 1), .int .i64 0, .int .i64 a, .int .i64 b, .int .i64 (payV b l)] (by rfl) (by rfl) (World.news_of_block (cs := #[.int .i64 y, .int .i64 ((K.length : Int) + 1), .int .i64 0, .int .i64 a, .int .i64 b, .int .i64 (payV b l)]) (t := 36) (fr := (0, 0)) (heap_alloc_new _ _)) (by simp [Value.oneCell']) (by omega) (by unfold maxLen; omega) (by omega) (by simp; omega) _ rfl ?_; intro gg cap w1 hown1 hgrow hat hlt; have hk1 : Jn w8 (.slice p K.length c) W1.heap.size W1 w1 := Jn.grown (Jn.alloc (by assumption) _) hgrow hbk.out; have hfin := Lib.hid (own_next hown1)))
          go_wp2
          exact ⟨⟨K ++ [(a, b)], b, rfl, HU2, by omega, by omega, hfin, hk1.2.1⟩, by simp [RowKit.intOf]; omega⟩
        | false =>
          rw [hwh] at HWH
          have HU2 := Lib.hid (HK.out.skip HBl.out ha hbb (fun h => by
            have h2 := (HEN.out a b).1 h
            have : wholeB a b = true := by unfold wholeB; rw [inB_yes (by omega) (by omega), inB_yes (by omega) (by omega)]; rfl
            rw [hwh] at this; cases this))
          clear hwh
          rw [hW6] at s0 s1
          go_wp2_with fail
          rw [← hW6] at s0 s1 ⊢
          refine (HWH.out).mono ?_
          rintro e w8 ⟨rfl, hb8⟩
          have HO8 := Lib.hid (own_below HO6.out hb8 (Nat.le_refl _))
          have hb9 := hb7.trans (hb8.mono hb7.size)
          go_wp2
          exact ⟨⟨K, b, rfl, HU2, by omega, by omega, HO8, hb9⟩, by simp [RowKit.intOf]; omega⟩
      · have hbl' : ¬ b - 1 ≤ J' - 1 := by omega
        have HU2 := Lib.hid (HK.out.skip HBl.out ha hbb (fun h => by have h2 := (HEN.out a b).1 h; omega))
        rw [hW6] at s0 s1 HO6 hb7
        clear hW6 z0 z1 z2 hT6 HWH
        go_wp2
        exact ⟨⟨K, b, rfl, HU2, by omega, by omega, HO6, hb7⟩, by simp [RowKit.intOf]; omega⟩
    · have hle : ¬ D ≤ J' - 1 := by omega
      have hIY := Lib.hid (HDN.out D K HK.out (by omega))
      clear HAR HPY HEN HDN HT1 HK HLA HFI
      rcases Nat.eq_zero_or_pos K.length with hn0 | hn0
      · obtain rfl : K = [] := List.eq_nil_of_length_eq_zero hn0
        clear hn0 HO
        simp only [List.length_nil]
        go_wp2
        go_loopw [45] (fun iv wx => ∃ i : Nat, i ≤ 0 ∧ iv = .int .i64 i ∧ Below W1.heap.size W1 wx) (fun iv _ => 0)
        case atStart => exact ⟨0, by omega, rfl, hb⟩
        case round =>
          obtain ⟨i, hi, rfl, hb2⟩ := hrel
          obtain rfl : i = 0 := by omega
          go_wp2
          go_ret
          exact ⟨[], p, c, hIY.out, rfl, .inl rfl, hb0.trans (hb2.mono (by omega))⟩
      · obtain ⟨g, c', hv, hg1, hg2, hgc, hcell, hfz⟩ := own_cells HO.out hn0
        injection hv with hv1 _ hv2
        subst hv1
        subst hv2
        have HPS : Hid (PerI wr g y K.length l K 0) := Lib.hid (PerI.start hcell hfz)
        obtain ⟨n, hn⟩ : ∃ n, n = K.length := ⟨_, rfl⟩
        have HN := Lib.hid hn
        rw [← hn] at HPS hKl hn0 ⊢
        clear hcell hfz HO hn hgc
        go_wp2
        go_loopw [45] (fun iv wx => ∃ i : Nat, i ≤ n ∧ iv = .int .i64 i ∧ Hid (PerI wx g y n l K i) ∧ Below W1.heap.size W1 wx) (fun iv _ => n - (RowKit.intOf iv).toNat)
        case atStart => exact ⟨0, by omega, rfl, HPS, hb⟩
        case round =>
          clear hb HPS
          obtain ⟨i, hi, rfl, HP, hb⟩ := hrel
          by_cases hin : i < n
          · have hiI : (i : Int) < (n : Int) := by omega
            obtain ⟨-, -, hc2, -⟩ := HP.out.1 i (by have := HN.out; omega)
            rw [if_neg (Nat.lt_irrefl _)] at hc2
            have hf2 := HP.out.2 (i * 6 + 2)
            have HP2 := Lib.hid (HP.out.next (by have := HN.out; omega))
            have hb2 := hb.setCell (p := ⟨g, i * 6 + 2, none⟩) hg1 (.int .i64 (n : Int))
            clear HP
            go_wp2
            exact ⟨⟨i + 1, by omega, by go_num, HP2, hb2⟩, by simp [RowKit.intOf]; omega⟩
          · obtain rfl : i = n := by omega
            have HP2 := Lib.hid (HP.out.done (by have := HN.out; omega))
            clear HP
            go_wp2
            go_ret
            refine ⟨K, some ⟨g, 0, none⟩, c, hIY.out, ?_, ?_, hb0.trans (hb.mono (by omega))⟩
            · rw [← HN.out]; rfl
            · rw [← HN.out]; exact HP2.out

end Go.Proofs.YtogdiiengbmiiaaDoor.Pe
