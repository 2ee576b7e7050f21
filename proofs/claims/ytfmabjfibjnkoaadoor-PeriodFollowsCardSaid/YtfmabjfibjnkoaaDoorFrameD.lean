/-
  What is proved: what the listed tables give to a call, that the program's own start meets that condition, and what calendars, periods and days that came in give to a walk. Conditions: none.
-/
import Derived.Test.YtfmabjfibjnkoaaDoorPdT
import Derived.ProofKit
import Derived.LaidMore
import Derived.OpenShut
import Derived.ShutString
import Derived.ChangeOld
import Derived.Lib.LaidTab
import Derived.Lib.Itoa
import Derived.Lib.ItoaMem
import Derived.Stop.Joined
import Derived.Lib.SmallJoins
namespace Go.Proofs.YtfmabjfibjnkoaaDoor
open Go Go.ChangeShapes Go.WideShapes Go.ChangeAt Go.RowKit Go.Lib
set_option linter.unusedVariables false

theorem own : ownKnob Tryd.prog.godebug = none := by kernel_rfl
theorem laidOut : laidOutB Tryd.prog = true := by kernel_rfl

/-- The tables that the rows of period list. -/
def laid6 : List (String × DataW Unit) := [("math/bits.deBruijn32tab", Rows.laid_math_bits_deBruijn32tab), ("math/bits.deBruijn64tab", Rows.laid_math_bits_deBruijn64tab), ("internal/strconv.uint64pow10", Rows.laid_internal_strconv_uint64pow10), ("wagebook/civil.lengths", Rows.laid_wagebook_civil_lengths), ("wagebook/period.lengths", Rows.laid_wagebook_period_lengths)]
def lenTab : List Int := [31, 28, 31, 30, 31, 30, 31, 31, 30, 31, 30, 31]
def plenTab : List Int := [0, 14, 28]
theorem tPow : (Tryd.prog.globals[2]?).map (·.type) = some 92 := by kernel_rfl
theorem cPow : Tryd.prog.cellsOf 92 = 20 := by kernel_rfl
theorem cU64 : Tryd.prog.cellsOf 85 = 1 := by kernel_rfl
theorem ePow : (Rows.laid_internal_strconv_uint64pow10 : DataW Unit) = tabData .u64 pow10Tab := rfl
theorem gLen : Tryd.prog.globalNamed "wagebook/civil.lengths" = some 1 := by kernel_rfl
theorem tLen : (Tryd.prog.globals[1]?).map (·.type) = some 80 := by kernel_rfl
theorem cLen : Tryd.prog.cellsOf 80 = 12 := by kernel_rfl
theorem cInt : Tryd.prog.cellsOf 3 = 1 := by kernel_rfl
theorem eLen : (Rows.laid_wagebook_civil_lengths : DataW Unit) = tabData .i64 lenTab := rfl
theorem gPLen : Tryd.prog.globalNamed "wagebook/period.lengths" = some 0 := by kernel_rfl
theorem tPLen : (Tryd.prog.globals[0]?).map (·.type) = some 69 := by kernel_rfl
theorem cPLen : Tryd.prog.cellsOf 69 = 3 := by kernel_rfl
theorem ePLen : (Rows.laid_wagebook_period_lengths : DataW Unit) = tabData .i64 plenTab := rfl

/-- The program's own start meets the condition. -/
theorem door6 (os : Os) (args : Array Value) : laidMetH Tryd.prog laid6 ((World.doorLaid Tryd.prog 400 os).forCall (fun _ _ => 0) ⟨#[], args, []⟩).memory :=
  laidMetH_of_parts3 (fuel := 8) (laidMet_of_run' 8 (by kernel_rfl) (by kernel_rfl)) (by kernel_rfl) (by kernel_rfl)

/-- What the condition gives. -/
theorem tab_of6 {W : World} (h : laidMetH Tryd.prog laid6 W) : Tab3 W := by
  rw [MakeChecks.laidMetH_plain _ _ _ (by kernel_rfl)] at h
  obtain ⟨ps, ⟨g0, t0, cs0, f0, p0, q0, hg0, ht0, hv0, hd0, ⟨g1, t1, cs1, f1, p1, q1, hg1, ht1, hv1, hd1, ⟨g2, t2, cs2, f2, p2, q2, hg2, ht2, hv2, hd2, ⟨g3, t3, cs3, f3, p3, q3, hg3, ht3, hv3, hd3, ⟨g4, t4, cs4, f4, p4, q4, hg4, ht4, hv4, hd4, _⟩, _⟩, _⟩, _⟩, _⟩, _⟩ := h
  have T2 : TabIs Tryd.prog W "internal/strconv.uint64pow10" .u64 pow10Tab := by
    obtain rfl := Option.some.inj (gPow.symm.trans hg2)
    obtain rfl := Option.some.inj (tPow.symm.trans ht2)
    unfold TabIs
    rw [ePow] at hd2
    rw [hv2, ← cells_of_tab Tryd.underlying92 Tryd.underlying85 cU64 cPow hd2]
  have T3 : TabIs Tryd.prog W "wagebook/civil.lengths" .i64 lenTab := by
    obtain rfl := Option.some.inj (gLen.symm.trans hg3)
    obtain rfl := Option.some.inj (tLen.symm.trans ht3)
    unfold TabIs
    rw [eLen] at hd3
    rw [hv3, ← cells_of_tab Tryd.underlying80 Tryd.underlying3 cInt cLen hd3]
  have T4 : TabIs Tryd.prog W "wagebook/period.lengths" .i64 plenTab := by
    obtain rfl := Option.some.inj (gPLen.symm.trans hg4)
    obtain rfl := Option.some.inj (tPLen.symm.trans ht4)
    unfold TabIs
    rw [ePLen] at hd4
    rw [hv4, ← cells_of_tab Tryd.underlying69 Tryd.underlying3 cInt cPLen hd4]
  refine ⟨⟨fun k hk => ?_, ?_, ?_, ?_⟩, T2⟩
  · rw [T3.cell gLen k hk]
    have e : k = 0 ∨ k = 1 ∨ k = 2 ∨ k = 3 ∨ k = 4 ∨ k = 5 ∨ k = 6 ∨ k = 7 ∨ k = 8 ∨ k = 9 ∨ k = 10 ∨ k = 11 := by omega
    rcases e with rfl | rfl | rfl | rfl | rfl | rfl | rfl | rfl | rfl | rfl | rfl | rfl <;> rfl
  · rw [T4.cell gPLen 0 (by decide)]; rfl
  · rw [T4.cell gPLen 1 (by decide)]; rfl
  · rw [T4.cell gPLen 2 (by decide)]; rfl

def in64 (n : Int) : Prop := -9223372036854775808 ≤ n ∧ n ≤ 9223372036854775807
theorem in64_wf {n : Int} (h : (Lit.int .i64 n).wf = true) : in64 n := by
  simp [Lit.wf, IntKind.min, IntKind.max, IntKind.signed, IntKind.bits] at h
  unfold in64
  omega
section
variable {H : Type} {enc : TypeId × Value → H} {w : World} {base : Nat} {spare : Nat → Bool} {held : Bool}
theorem cal_arg {r : Reach} {b0 : Nat} {v : Value} {d : DataW H} {p : List MemPlace} (hv : Value.okWide Tryd.prog w r b0 24 v) (h : DataW.Trod enc Tryd.prog w base spare held 24 v d p) :
    ∃ k f l : Int, v = .agg #[.int .i64 k, .int .i64 f, .int .i64 l] ∧ in64 k ∧ in64 f ∧ in64 l := by
  obtain ⟨x0, x1, x2, y0, y1, y2, n, rfl, -, -, t0, t1, t2⟩ := Joins.open_agg3 Tryd.underlying24 (by kernel_rfl) (by kernel_rfl) hv h
  obtain ⟨a0, e0, -, w0⟩ := DataW.trod_int (t := 3) Tryd.underlying3 t0
  obtain ⟨a1, e1, -, w1⟩ := DataW.trod_int (t := 22) Tryd.underlying22 t1
  obtain ⟨a2, e2, -, w2⟩ := DataW.trod_int (t := 3) Tryd.underlying3 t2
  obtain rfl : x0 = .int .i64 a0 := by simpa using e0
  obtain rfl : x1 = .int .i64 a1 := by simpa using e1
  obtain rfl : x2 = .int .i64 a2 := by simpa using e2
  exact ⟨a0, a1, a2, rfl, in64_wf w0, in64_wf w1, in64_wf w2⟩
theorem int_of {t : TypeId} {fuel : Nat} {c : Value} {y : DataW H × List MemPlace} (hu : Tryd.prog.underlying t = some (.int .i64)) (h : DataW.trod enc Tryd.prog w base spare held fuel t [c] = some y) : ∃ a : Int, c = .int .i64 a ∧ in64 a := by
  obtain ⟨n, hn, _, hw⟩ := DataW.trod_int (t := t) hu h
  exact ⟨n, by simpa using hn, in64_wf hw⟩
theorem per_arg {r : Reach} {b0 : Nat} {v : Value} {d : DataW H} {p : List MemPlace} (hv : Value.okWide Tryd.prog w r b0 30 v) (h : DataW.Trod enc Tryd.prog w base spare held 30 v d p) :
    ∃ y i n a b q : Int, v = .agg #[.int .i64 y, .int .i64 i, .int .i64 n, .int .i64 a, .int .i64 b, .int .i64 q] ∧ in64 y ∧ in64 i ∧ in64 n ∧ in64 a ∧ in64 b ∧ in64 q := by
  obtain ⟨cs, rfl, hsz⟩ := okWide_struct Tryd.underlying30 hv
  obtain ⟨fuel, hf⟩ := h
  obtain ⟨xs, n, _, hx, hl, hlen, hg⟩ := DataW.trod_struct Tryd.underlying30 hf
  rw [show Tryd.prog.cellsOf 30 = 6 by kernel_rfl] at hsz
  obtain ⟨l⟩ := cs
  match l, hsz with
  | [c0, c1, c2, c3, c4, c5], _ =>
    match xs, hlen with
    | [y0, y1, y2, y3, y4], _ =>
      have g0 : DataW.trod enc Tryd.prog w base spare held n 3 ([c0, c1, c2, c3, c4, c5].take (Tryd.prog.cellsOf 3)) = some y0 := hg 0 _ rfl
      have g1 : DataW.trod enc Tryd.prog w base spare held n 3 (([c0, c1, c2, c3, c4, c5].drop 1).take (Tryd.prog.cellsOf 3)) = some y1 := hg 1 _ rfl
      have g2 : DataW.trod enc Tryd.prog w base spare held n 3 (([c0, c1, c2, c3, c4, c5].drop 2).take (Tryd.prog.cellsOf 3)) = some y2 := hg 2 _ rfl
      have g3 : DataW.trod enc Tryd.prog w base spare held n 28 (([c0, c1, c2, c3, c4, c5].drop 3).take (Tryd.prog.cellsOf 28)) = some y3 := hg 3 _ rfl
      have g4 : DataW.trod enc Tryd.prog w base spare held n 22 (([c0, c1, c2, c3, c4, c5].drop 5).take (Tryd.prog.cellsOf 22)) = some y4 := hg 4 _ rfl
      rw [cInt] at g0 g1 g2
      rw [show Tryd.prog.cellsOf 28 = 2 by kernel_rfl] at g3
      rw [show Tryd.prog.cellsOf 22 = 1 by kernel_rfl] at g4
      obtain ⟨a0, rfl, w0⟩ := int_of (c := c0) Tryd.underlying3 g0
      obtain ⟨a1, rfl, w1⟩ := int_of (c := c1) Tryd.underlying3 g1
      obtain ⟨a2, rfl, w2⟩ := int_of (c := c2) Tryd.underlying3 g2
      obtain ⟨a5, rfl, w5⟩ := int_of (c := c5) Tryd.underlying22 g4
      obtain ⟨zs, m, _, _, _, hzl, hz⟩ := DataW.trod_struct Tryd.underlying28 g3
      match zs, hzl with
      | [u0, u1], _ =>
        have k0 : DataW.trod enc Tryd.prog w base spare held m 22 ([c3, c4].take (Tryd.prog.cellsOf 22)) = some u0 := hz 0 _ rfl
        have k1 : DataW.trod enc Tryd.prog w base spare held m 22 (([c3, c4].drop 1).take (Tryd.prog.cellsOf 22)) = some u1 := hz 1 _ rfl
        rw [show Tryd.prog.cellsOf 22 = 1 by kernel_rfl] at k0 k1
        obtain ⟨a3, rfl, w3⟩ := int_of (c := c3) Tryd.underlying22 k0
        obtain ⟨a4, rfl, w4⟩ := int_of (c := c4) Tryd.underlying22 k1
        exact ⟨a0, a1, a2, a3, a4, a5, rfl, w0, w1, w2, w3, w4, w5⟩
end

end Go.Proofs.YtfmabjfibjnkoaaDoor
