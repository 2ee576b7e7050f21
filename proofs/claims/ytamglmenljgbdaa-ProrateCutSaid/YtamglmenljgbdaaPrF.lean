/-
  What is proved: what prorate.Salary comes to, as a plain function of the pieces; whether days of a piece are days of the pieces ahead, by sets and by their ends; the sum of two amounts. Conditions: as there.
-/
import Derived.Test.YtamglmenljgbdaaPrD
import Derived.Test.YtamglmenljgbdaaPrE
import Derived.Test.YtamglmenljgbdaaCeB
namespace Go.Proofs.Ytamglmenljgbdaa
open Go Go.RowKit Go.Proofs
open Sp (IsSet Mem Canon hasB SetPost SpansIn)

/-- A piece: its days, its year's amount, its part. -/
abbrev Pc := (Int × Int) × Int × Int
def crossB (s t : Sp.Sp) : Bool := decide (s.1 < t.2 ∧ t.1 < s.2)
def anyC (D : List Sp.Sp) (s : Sp.Sp) : Bool := D.any (fun t => crossB s t)
def stepE (a b i n : Int) (D : List Sp.Sp) (S : Int) (q : Pc) : Int :=
  if chkE a b q.1.1 q.1.2 (anyC D q.1) = 0 then (if amtE i n q.2.1 q.2.2 = 0 then Ce.addE S (amtV a b i n q.1.1 q.1.2 q.2.1 q.2.2) else amtE i n q.2.1 q.2.2) else chkE a b q.1.1 q.1.2 (anyC D q.1)
def stepV (a b i n : Int) (S : Int) (q : Pc) : Int := Ce.addV S (amtV a b i n q.1.1 q.1.2 q.2.1 q.2.2)
def salR (a b i n : Int) : List Pc → List Sp.Sp → Int → Int × Int
  | [], _, S => (S, 0)
  | q :: r, D, S => if stepE a b i n D S q = 0 then salR a b i n r (D ++ [q.1]) (stepV a b i n S q) else (0, stepE a b i n D S q)
def salVE (a b i n : Int) (L : List Pc) : Int × Int := if 64 < L.length then (0, 5) else salR a b i n L [] 0

theorem chk_zero {a b x y : Int} {cr : Bool} (h : chkE a b x y cr = 0) : x < y ∧ a ≤ x ∧ y ≤ b ∧ b - a ≤ 366 ∧ cr = false := by
  unfold chkE at h
  split at h
  · cases h
  · split at h
    · cases h
    · rename_i h1 h2
      exact ⟨by omega, by omega, by omega, by omega, by simpa using h2⟩
theorem cross_iff {D : List Sp.Sp} {x y : Int} (hD : ∀ t ∈ D, t.1 < t.2) (h : x < y) : anyC D (x, y) = true ↔ ∃ d, (hasB [(x, y)] d && hasB D d) = true := by
  unfold anyC
  rw [List.any_eq_true]
  constructor
  · rintro ⟨t, ht, hc⟩
    have h1 := hD t ht
    unfold crossB at hc
    simp only [decide_eq_true_eq] at hc
    refine ⟨max x t.1, ?_⟩
    rw [(one_has x y _).2 ⟨by omega, by omega⟩, Sp.hasB_iff.2 ⟨t, ht, by omega, by omega⟩]; rfl
  · rintro ⟨d, hd⟩
    rw [Bool.and_eq_true] at hd
    obtain ⟨t, ht, h1, h2⟩ := Sp.hasB_iff.1 hd.2
    have h3 := (one_has x y d).1 hd.1
    refine ⟨t, ht, ?_⟩
    unfold crossB
    simp only [decide_eq_true_eq]
    omega
theorem cross_ex (D : List Sp.Sp) (x y : Int) : ∃ cr : Bool, (cr = true ↔ ∃ d, (hasB [(x, y)] d && hasB D d) = true) := by
  classical
  exact ⟨decide (∃ d, (hasB [(x, y)] d && hasB D d) = true), by simp⟩
theorem chk_cr {D : List Sp.Sp} {a b x y : Int} (hD : ∀ t ∈ D, t.1 < t.2) {cr : Bool} (h : cr = true ↔ ∃ d, (hasB [(x, y)] d && hasB D d) = true) : chkE a b x y cr = chkE a b x y (anyC D (x, y)) := by
  by_cases hxy : y ≤ x
  · unfold chkE; rw [if_pos (.inl hxy), if_pos (.inl hxy)]
  · have : cr = anyC D (x, y) := by
      rw [Bool.eq_iff_iff, h, cross_iff hD (by omega)]
    rw [this]
theorem fitB_fits (t : Int) : Ce.fitsB t = Sh.fitB t := rfl
theorem add_ok {a b : Int} (h : Ce.addE a b = 0) : Sh.fitB a = true ∧ Sh.fitB b = true ∧ Sh.fitB (a + b) = true ∧ Ce.addV a b = a + b := by
  unfold Ce.addE at h
  split at h
  · rename_i hf
    unfold Ce.inE at h
    split at h
    · rename_i hs
      refine ⟨hf.1, hf.2, hs, ?_⟩
      unfold Ce.addV Ce.inV
      rw [if_pos hf, if_pos hs]
    · cases h
  · cases h
theorem add_is {a b : Int} (h1 : Sh.fitB a = true) (h2 : Sh.fitB b = true) (h3 : Sh.fitB (a + b) = true) : Ce.addE a b = 0 ∧ Ce.addV a b = a + b := by
  have hf : Ce.fitsB a = true ∧ Ce.fitsB b = true := ⟨h1, h2⟩
  have h3' : Ce.fitsB (a + b) = true := h3
  unfold Ce.addE Ce.addV Ce.inE Ce.inV
  rw [if_pos hf, if_pos hf, if_pos h3', if_pos h3']
  exact ⟨rfl, rfl⟩
theorem add_fit (a b : Int) : Sh.fitB (Ce.addV a b) = true := fit_iff.2 (Ce.addV_bd a b)
theorem sum_two {S A : Int} (h : Sh.fitB S = true) : Ce.sumVE 0 [S, A] = if Ce.addE S A = 0 then (Ce.addV S A, 0) else (0, Ce.addE S A) := by
  obtain ⟨h1, h2⟩ := add_is (a := 0) (b := S) (by decide) h (by rw [Int.zero_add]; exact h)
  rw [Int.zero_add] at h2
  unfold Ce.sumVE
  rw [if_pos h1, h2]
  unfold Ce.sumVE
  rfl

/-- Pieces in memory. -/
def PcsIn (w : World) (p : Option Addr) (L : List Pc) : Prop :=
  L = [] ∨ ∃ b o, p = some ⟨b, o, none⟩ ∧ ∀ j, j < L.length → w.cell? ⟨b, o + j * 4, none⟩ = some (.int .i64 (L.getD j ((0, 0), 0, 0)).1.1) ∧ w.cell? ⟨b, o + j * 4 + 1, none⟩ = some (.int .i64 (L.getD j ((0, 0), 0, 0)).1.2) ∧
    w.cell? ⟨b, o + j * 4 + 2, none⟩ = some (.int .i64 (L.getD j ((0, 0), 0, 0)).2.1) ∧ w.cell? ⟨b, o + j * 4 + 3, none⟩ = some (.int .i64 (L.getD j ((0, 0), 0, 0)).2.2)
theorem PcsIn.below {w w' : World} {p : Option Addr} {L : List Pc} {B : Nat} (h : PcsIn w p L) (hb : Below B w w') (hB : w.heap.size ≤ B) : PcsIn w' p L := by
  rcases h with h | ⟨b, o, rfl, hc⟩
  · exact .inl h
  · refine .inr ⟨b, o, rfl, fun j hj => ?_⟩
    obtain ⟨c0, c1, c2, c3⟩ := hc j hj
    have hlt : b < B := Nat.lt_of_lt_of_le (World.block_lt_of_cell? w _ c0) hB
    exact ⟨(hb.cell (p := ⟨b, _, none⟩) hlt).trans c0, (hb.cell (p := ⟨b, _, none⟩) hlt).trans c1, (hb.cell (p := ⟨b, _, none⟩) hlt).trans c2, (hb.cell (p := ⟨b, _, none⟩) hlt).trans c3⟩
/-- The days of the first pieces. -/
def dys (L : List Pc) : List Sp.Sp := L.map (·.1)
theorem take_next {L : List Pc} {k : Nat} (h : k < L.length) : L.take (k + 1) = L.take k ++ [L.getD k ((0, 0), 0, 0)] := by
  rw [List.take_add_one]
  simp [List.getD, h]
theorem drop_next {L : List Pc} {k : Nat} (h : k < L.length) : L.drop k = L.getD k ((0, 0), 0, 0) :: L.drop (k + 1) := by
  rw [List.drop_eq_getElem_cons h]
  simp [List.getD, h]
theorem dys_next {L : List Pc} {k : Nat} (h : k < L.length) : dys (L.take (k + 1)) = dys (L.take k) ++ [(L.getD k ((0, 0), 0, 0)).1] := by
  rw [take_next h]; unfold dys; simp

end Go.Proofs.Ytamglmenljgbdaa
