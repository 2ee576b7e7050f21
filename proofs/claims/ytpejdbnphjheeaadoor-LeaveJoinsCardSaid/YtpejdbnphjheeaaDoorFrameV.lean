/-
  What is proved: what the listed tables give to a call, that the program's own start meets that condition, and what plans, moves and accounts that came in give to a walk. Conditions: none.
-/
import Derived.Test.YtpejdbnphjheeaaDoorLvI
import Derived.ProofKit
import Derived.LaidMore
import Derived.OpenShut
import Derived.ShutString
import Derived.ChangeOld
import Derived.Lib.LaidTab
import Derived.Lib.Itoa
import Derived.Lib.ItoaMem
import Derived.Stop.Joined
import Derived.Lib.SmallJoins
import Derived.Deep.Slices
namespace Go.Proofs.YtpejdbnphjheeaaDoor
open Go Go.Proofs.YtpejdbnphjheeaaDoor.Cv Go.ChangeShapes Go.WideShapes Go.ChangeAt Go.RowKit Go.Lib
set_option linter.unusedVariables false

theorem own : ownKnob Tryd.prog.godebug = none := by kernel_rfl
theorem laidOut : laidOutB Tryd.prog = true := by kernel_rfl

/-- The tables that the rows of leave list. -/
def laid4 : List (String × DataW Unit) := [("math/bits.deBruijn32tab", Rows.laid_math_bits_deBruijn32tab), ("math/bits.deBruijn64tab", Rows.laid_math_bits_deBruijn64tab), ("internal/strconv.uint64pow10", Rows.laid_internal_strconv_uint64pow10), ("wagebook/civil.lengths", Rows.laid_wagebook_civil_lengths)]
def lenTab : List Int := [31, 28, 31, 30, 31, 30, 31, 31, 30, 31, 30, 31]
theorem tPow : (Tryd.prog.globals[1]?).map (·.type) = some 97 := by kernel_rfl
theorem cPow : Tryd.prog.cellsOf 97 = 20 := by kernel_rfl
theorem cU64 : Tryd.prog.cellsOf 86 = 1 := by kernel_rfl
theorem ePow : (Rows.laid_internal_strconv_uint64pow10 : DataW Unit) = tabData .u64 pow10Tab := rfl
theorem gLen : Tryd.prog.globalNamed "wagebook/civil.lengths" = some 0 := by kernel_rfl
theorem tLen : (Tryd.prog.globals[0]?).map (·.type) = some 84 := by kernel_rfl
theorem cLen : Tryd.prog.cellsOf 84 = 12 := by kernel_rfl
theorem cInt : Tryd.prog.cellsOf 3 = 1 := by kernel_rfl
theorem eLen : (Rows.laid_wagebook_civil_lengths : DataW Unit) = tabData .i64 lenTab := rfl

/-- The program's own start meets the condition. -/
theorem door4 (os : Os) (args : Array Value) : laidMetH Tryd.prog laid4 ((World.doorLaid Tryd.prog 400 os).forCall (fun _ _ => 0) ⟨#[], args, []⟩).memory :=
  laidMetH_of_parts3 (fuel := 8) (laidMet_of_run' 8 (by kernel_rfl) (by kernel_rfl)) (by kernel_rfl) (by kernel_rfl)

/-- What the condition gives. -/
theorem tab_of4 {W : World} (h : laidMetH Tryd.prog laid4 W) : Tab4 W := by
  rw [MakeChecks.laidMetH_plain _ _ _ (by kernel_rfl)] at h
  obtain ⟨ps, ⟨g0, t0, cs0, f0, p0, q0, hg0, ht0, hv0, hd0, ⟨g1, t1, cs1, f1, p1, q1, hg1, ht1, hv1, hd1, ⟨g2, t2, cs2, f2, p2, q2, hg2, ht2, hv2, hd2, ⟨g3, t3, cs3, f3, p3, q3, hg3, ht3, hv3, hd3, _⟩, _⟩, _⟩, _⟩, _⟩ := h
  have T2 : TabIs Tryd.prog W "internal/strconv.uint64pow10" .u64 pow10Tab := by
    obtain rfl := Option.some.inj (gPow.symm.trans hg2)
    obtain rfl := Option.some.inj (tPow.symm.trans ht2)
    unfold TabIs
    rw [ePow] at hd2
    rw [hv2, ← cells_of_tab Tryd.underlying97 Tryd.underlying86 cU64 cPow hd2]
  have T3 : TabIs Tryd.prog W "wagebook/civil.lengths" .i64 lenTab := by
    obtain rfl := Option.some.inj (gLen.symm.trans hg3)
    obtain rfl := Option.some.inj (tLen.symm.trans ht3)
    unfold TabIs
    rw [eLen] at hd3
    rw [hv3, ← cells_of_tab Tryd.underlying84 Tryd.underlying3 cInt cLen hd3]
  refine ⟨fun k hk => ?_, T2⟩
  rw [T3.cell gLen k hk]
  have e : k = 0 ∨ k = 1 ∨ k = 2 ∨ k = 3 ∨ k = 4 ∨ k = 5 ∨ k = 6 ∨ k = 7 ∨ k = 8 ∨ k = 9 ∨ k = 10 ∨ k = 11 := by omega
  rcases e with rfl | rfl | rfl | rfl | rfl | rfl | rfl | rfl | rfl | rfl | rfl | rfl <;> rfl

def in64 (n : Int) : Prop := -9223372036854775808 ≤ n ∧ n ≤ 9223372036854775807
theorem in64_wf {n : Int} (h : (Lit.int .i64 n).wf = true) : in64 n := by
  simp [Lit.wf, IntKind.min, IntKind.max, IntKind.signed, IntKind.bits] at h
  unfold in64
  omega
section
variable {H : Type} {enc : TypeId × Value → H} {w : World} {base : Nat} {spare : Nat → Bool} {held : Bool}
theorem plan_arg {r : Reach} {b0 : Nat} {v : Value} {d : DataW H} {p : List MemPlace} (hv : Value.okWide Tryd.prog w r b0 23 v) (h : DataW.Trod enc Tryd.prog w base spare held 23 v d p) :
    ∃ k f l : Int, v = .agg #[.int .i64 k, .int .i64 f, .int .i64 l] ∧ in64 k ∧ in64 f ∧ in64 l := by
  obtain ⟨x0, x1, x2, y0, y1, y2, n, rfl, -, -, t0, t1, t2⟩ := Joins.open_agg3 Tryd.underlying23 (by kernel_rfl) (by kernel_rfl) hv h
  obtain ⟨a0, e0, -, w0⟩ := DataW.trod_int (t := 3) Tryd.underlying3 t0
  obtain ⟨a1, e1, -, w1⟩ := DataW.trod_int (t := 3) Tryd.underlying3 t1
  obtain ⟨a2, e2, -, w2⟩ := DataW.trod_int (t := 3) Tryd.underlying3 t2
  obtain rfl : x0 = .int .i64 a0 := by simpa using e0
  obtain rfl : x1 = .int .i64 a1 := by simpa using e1
  obtain rfl : x2 = .int .i64 a2 := by simpa using e2
  exact ⟨a0, a1, a2, rfl, in64_wf w0, in64_wf w1, in64_wf w2⟩
theorem int_of {t : TypeId} {fuel : Nat} {c : Value} {y : DataW H × List MemPlace} (hu : Tryd.prog.underlying t = some (.int .i64)) (h : DataW.trod enc Tryd.prog w base spare held fuel t [c] = some y) : ∃ a : Int, c = .int .i64 a ∧ in64 a := by
  obtain ⟨n, hn, _, hw⟩ := DataW.trod_int (t := t) hu h
  exact ⟨n, by simpa using hn, in64_wf hw⟩
theorem acc_arg {r : Reach} {b0 : Nat} {v : Value} {d : DataW H} {p : List MemPlace} (hv : Value.okWide Tryd.prog w r b0 28 v) (h : DataW.Trod enc Tryd.prog w base spare held 28 v d p) :
    ∃ q : Nat → Int, v = .agg #[.int .i64 (q 0), .int .i64 (q 1), .int .i64 (q 2), .int .i64 (q 3)] ∧ ∀ j, j < 4 → in64 (q j) := by
  obtain ⟨cs, rfl, hsz⟩ := okWide_struct Tryd.underlying28 hv
  obtain ⟨fuel, hf⟩ := h
  obtain ⟨xs, n, _, hx, hl, hlen, hg⟩ := DataW.trod_struct Tryd.underlying28 hf
  rw [show Tryd.prog.cellsOf 28 = 4 by kernel_rfl] at hsz
  obtain ⟨l⟩ := cs
  match l, hsz with
  | [c0, c1, c2, c3], _ =>
    match xs, hlen with
    | [y0, y1, y2, y3], _ =>
      have g0 : DataW.trod enc Tryd.prog w base spare held n 3 ([c0, c1, c2, c3].take (Tryd.prog.cellsOf 3)) = some y0 := hg 0 _ rfl
      have g1 : DataW.trod enc Tryd.prog w base spare held n 3 (([c0, c1, c2, c3].drop 1).take (Tryd.prog.cellsOf 3)) = some y1 := hg 1 _ rfl
      have g2 : DataW.trod enc Tryd.prog w base spare held n 3 (([c0, c1, c2, c3].drop 2).take (Tryd.prog.cellsOf 3)) = some y2 := hg 2 _ rfl
      have g3 : DataW.trod enc Tryd.prog w base spare held n 3 (([c0, c1, c2, c3].drop 3).take (Tryd.prog.cellsOf 3)) = some y3 := hg 3 _ rfl
      rw [cInt] at g0 g1 g2 g3
      obtain ⟨a0, rfl, w0⟩ := int_of (c := c0) Tryd.underlying3 g0
      obtain ⟨a1, rfl, w1⟩ := int_of (c := c1) Tryd.underlying3 g1
      obtain ⟨a2, rfl, w2⟩ := int_of (c := c2) Tryd.underlying3 g2
      obtain ⟨a3, rfl, w3⟩ := int_of (c := c3) Tryd.underlying3 g3
      refine ⟨fun j => if j = 0 then a0 else if j = 1 then a1 else if j = 2 then a2 else a3, rfl, fun j hj => ?_⟩
      have e : j = 0 ∨ j = 1 ∨ j = 2 ∨ j = 3 := by omega
      rcases e with rfl | rfl | rfl | rfl
      · exact w0
      · exact w1
      · exact w2
      · exact w3
end

/-- Moves that came in. -/
def MvArg (w : World) (a : Option Addr) (len cap : Nat) (f : Nat → Mv) : Prop := (len = 0 ∨ ∃ b o, a = some ⟨b, o, none⟩ ∧ ∀ j, j < len → w.cell? ⟨b, o + j * 3, none⟩ = some (.int .i64 (f j).1) ∧ w.cell? ⟨b, o + j * 3 + 1, none⟩ = some (.int .i64 (f j).2.1) ∧ w.cell? ⟨b, o + j * 3 + 2, none⟩ = some (.int .i64 (f j).2.2)) ∧ len ≤ cap ∧ (∀ j, j < len → in64 (f j).1 ∧ in64 (f j).2.1 ∧ in64 (f j).2.2) ∧ len ≤ maxLen
set_option maxRecDepth 100000 in
theorem mv_cells {H : Type} {enc : TypeId × Value → H} {w : World} {base : Nat} {spare : Nat → Bool} {held : Bool} {fuel : Nat} {cs : List Value} {x : DataW H × List MemPlace} (h : DataW.trod enc Tryd.prog w base spare held fuel 42 cs = some x) (hl : cs.length = 3) :
    ∃ e : Mv, cs = [.int .i64 e.1, .int .i64 e.2.1, .int .i64 e.2.2] ∧ in64 e.1 ∧ in64 e.2.1 ∧ in64 e.2.2 := by
  obtain ⟨xs, n, _, _, _, hlen, hg⟩ := DataW.trod_struct Tryd.underlying42 h
  match cs, hl with
  | [c0, c1, c2], _ =>
    match xs, hlen with
    | [y0, y1, y2], _ =>
      have g0 : DataW.trod enc Tryd.prog w base spare held n 24 ([c0, c1, c2].take (Tryd.prog.cellsOf 24)) = some y0 := hg 0 _ rfl
      have g1 : DataW.trod enc Tryd.prog w base spare held n 3 (([c0, c1, c2].drop 1).take (Tryd.prog.cellsOf 3)) = some y1 := hg 1 _ rfl
      have g2 : DataW.trod enc Tryd.prog w base spare held n 3 (([c0, c1, c2].drop 2).take (Tryd.prog.cellsOf 3)) = some y2 := hg 2 _ rfl
      rw [show Tryd.prog.cellsOf 24 = 1 by kernel_rfl] at g0
      rw [show Tryd.prog.cellsOf 3 = 1 by kernel_rfl] at g1 g2
      obtain ⟨a, ha, _, wa⟩ := DataW.trod_int (t := 24) Tryd.underlying24 g0
      obtain ⟨b, hb, _, wb⟩ := DataW.trod_int (t := 3) Tryd.underlying3 g1
      obtain ⟨c, hc, _, wc⟩ := DataW.trod_int (t := 3) Tryd.underlying3 g2
      simp at ha hb hc
      subst ha hb hc
      exact ⟨(a, b, c), rfl, in64_wf wa, in64_wf wb, in64_wf wc⟩
theorem mvs_of {H : Type} {enc : TypeId × Value → H} {w : World} {base : Nat} {spare : Nat → Bool} {held : Bool} {fuel : Nat} {a : Option Addr} {len cap : Nat} {x : DataW H × List MemPlace} (h : DataW.trod enc Tryd.prog w base spare held fuel 25 [.slice a len cap] = some x) :
    ∃ f : Nat → Mv, MvArg w a len cap f := by
  rcases Go.Deep.open_slice Tryd.underlying25 h with ⟨hcs, _⟩ | ⟨y, l, cp, m, k, D, Pl, hcs, _, hl, hm, hmm, _, hall⟩
  · simp at hcs
    obtain ⟨rfl, rfl, rfl⟩ := hcs
    exact ⟨fun _ => (0, 0, 0), .inl rfl, Nat.zero_le _, fun j hj => absurd hj (by omega), by simp [maxLen]⟩
  · simp at hcs
    obtain ⟨rfl, rfl, rfl⟩ := hcs
    have hlm : len ≤ m := by rw [hmm]; split <;> omega
    rw [show Tryd.prog.cellsOf 42 = 3 by kernel_rfl] at hall
    have hex : ∀ i, ∃ e : Mv, i < len → (w.cell? (y.add (i * 3)) = some (.int .i64 e.1) ∧ w.cell? (y.add (i * 3 + 1)) = some (.int .i64 e.2.1) ∧ w.cell? (y.add (i * 3 + 2)) = some (.int .i64 e.2.2)) ∧ in64 e.1 ∧ in64 e.2.1 ∧ in64 e.2.2 := fun i => by
      by_cases hi : i < len
      · obtain ⟨cs, h1, h2⟩ := hall i (by omega)
        obtain ⟨_, hlen, hcell⟩ := World.cells?_some h1
        obtain ⟨e, rfl, he⟩ := mv_cells h2 hlen
        have e0 := hcell 0 (by omega)
        have e1 := hcell 1 (by omega)
        have e2 := hcell 2 (by omega)
        rw [Go.Deep.add_add] at e0 e1 e2
        exact ⟨e, fun _ => ⟨⟨by simpa using e0, by simpa using e1, by simpa using e2⟩, he⟩⟩
      · exact ⟨(0, 0, 0), fun h => absurd h hi⟩
    obtain ⟨f, hf⟩ : ∃ f : Nat → Mv, ∀ i, i < len → (w.cell? (y.add (i * 3)) = some (.int .i64 (f i).1) ∧ w.cell? (y.add (i * 3 + 1)) = some (.int .i64 (f i).2.1) ∧ w.cell? (y.add (i * 3 + 2)) = some (.int .i64 (f i).2.2)) ∧ in64 (f i).1 ∧ in64 (f i).2.1 ∧ in64 (f i).2.2 := ⟨fun i => Classical.choose (hex i), fun i hi => Classical.choose_spec (hex i) hi⟩
    refine ⟨f, ?_, hl, fun j hj => (hf j hj).2, by omega⟩
    by_cases h0 : len = 0
    · exact .inl h0
    · obtain ⟨b, off, spot⟩ := y
      have hspot : spot = none := by simpa [Addr.add] using World.cell?_spot (hf 0 (by omega)).1.1
      subst hspot
      refine .inr ⟨b, off, rfl, fun j hj => ?_⟩
      obtain ⟨⟨g0, g1, g2⟩, -⟩ := hf j hj
      rw [Go.WideShapes.add_plain] at g0 g1 g2
      exact ⟨g0, g1, g2⟩

theorem MvArg.mv {w : World} {a : Option Addr} {n c : Nat} {f : Nat → Mv} (h : MvArg w a n c f) : MvIn w a n (fun j => (f j).1) (fun j => (f j).2.1) (fun j => (f j).2.2) := h.1

end Go.Proofs.YtpejdbnphjheeaaDoor
