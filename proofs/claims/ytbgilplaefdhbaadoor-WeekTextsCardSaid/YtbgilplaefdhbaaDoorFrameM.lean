/-
  What is proved: what the listed variables of the library give to a call of week's statements on texts, and what weeks and texts that came in give to a walk. Conditions: none.
-/
import Derived.Test.YtbgilplaefdhbaaDoorDkX
import Derived.Test.YtbgilplaefdhbaaDoorRows
import Derived.ProofKit
import Derived.LaidMore
import Derived.LaidLaws
import Derived.OpenShut
import Derived.ShutString
import Derived.ChangeOld
import Derived.Below
import Derived.Lay
import Derived.Lib.LaidTab
import Derived.Lib.SmallJoins
import Derived.Stop.Joined
namespace Go.Proofs.YtbgilplaefdhbaaDoor
open Go Go.ChangeShapes Go.WideShapes Go.ChangeAt Go.RowKit Go.Lib
set_option maxRecDepth 100000

theorem own : ownKnob Tryd.prog.godebug = none := by kernel_rfl
theorem laidOut : laidOutB Tryd.prog = true := by kernel_rfl
def in64 (n : Int) : Prop := -9223372036854775808 ≤ n ∧ n ≤ 9223372036854775807
theorem in64_wf {n : Int} (h : (Lit.int .i64 n).wf = true) : in64 n := by
  simp [Lit.wf, IntKind.min, IntKind.max, IntKind.signed, IntKind.bits] at h
  unfold in64
  omega
theorem okWide_arr {P : Program} {w : World} {r : Reach} {base : Nat} {t : TypeId} {v : Value} {n : Nat} {e : TypeId} (ht : P.underlying t = some (.array n e)) (h : Value.okWide P w r base t v) : ∃ cs, v = .agg cs ∧ cs.size = P.cellsOf t := by
  simp only [Value.okWide, ht] at h
  obtain ⟨cs, h1, h2, _⟩ := h
  exact ⟨cs, h1, h2⟩
/-- A list's numbers, by their place. -/
def atL (l : List Int) : Nat → Int := fun i => l.getD i 0
section
variable {H : Type} {enc : TypeId × Value → H} {w : World} {base : Nat} {spare : Nat → Bool} {held : Bool} {fuel : Nat} {x : DataW H × List MemPlace}
/-- Seven integers. -/
theorem week_of {cs : List Value} (h : DataW.trod enc Tryd.prog w base spare held fuel 23 cs = some x) :
    ∃ a0 a1 a2 a3 a4 a5 a6 : Int, cs = [.int .i64 a0, .int .i64 a1, .int .i64 a2, .int .i64 a3, .int .i64 a4, .int .i64 a5, .int .i64 a6] := by
  obtain ⟨xs, m, _, _, hl, hx, hall⟩ := DataW.trod_array uWeek h
  rw [show Tryd.prog.cellsOf 23 = 7 by kernel_rfl] at hl
  rw [cInt] at hall
  match cs, hl with
  | [c0, c1, c2, c3, c4, c5, c6], _ =>
    match xs, hx with
    | [y0, y1, y2, y3, y4, y5, y6], _ =>
      have e : ∀ {c : Value} {y : DataW H × List MemPlace}, DataW.trod enc Tryd.prog w base spare held m 3 [c] = some y → ∃ a, c = .int .i64 a := fun h => by
        obtain ⟨n, hn, _⟩ := DataW.trod_int (t := 3) Tryd.underlying3 h
        exact ⟨n, by simpa using hn⟩
      obtain ⟨a0, rfl⟩ := e (by simpa using hall 0 (by omega))
      obtain ⟨a1, rfl⟩ := e (by simpa using hall 1 (by omega))
      obtain ⟨a2, rfl⟩ := e (by simpa using hall 2 (by omega))
      obtain ⟨a3, rfl⟩ := e (by simpa using hall 3 (by omega))
      obtain ⟨a4, rfl⟩ := e (by simpa using hall 4 (by omega))
      obtain ⟨a5, rfl⟩ := e (by simpa using hall 5 (by omega))
      obtain ⟨a6, rfl⟩ := e (by simpa using hall 6 (by omega))
      exact ⟨a0, a1, a2, a3, a4, a5, a6, rfl⟩
/-- Free days. -/
theorem free_of {c : Value} (h : DataW.trod enc Tryd.prog w base spare held fuel 37 [c] = some x) :
    ∃ (p : Option Addr) (F : List Int) (cap : Nat), c = .slice p F.length cap ∧ DaysIn w p F ∧ F.length ≤ cap ∧ F.length ≤ maxLen := by
  rcases open_ints (k := .i64) Tryd.underlying37 Tryd.underlying39 (by kernel_rfl) h with ⟨hcs, _⟩ | ⟨a, len, cap, zs, hcs, _, hl, hm, hz, _, hcell, hwz⟩
  · simp at hcs
    subst hcs
    exact ⟨none, [], 0, rfl, .inl rfl, Nat.le_refl _, by simp [maxLen]⟩
  · simp at hcs
    subst hcs
    have hlen : len ≤ zs.length := by rw [hz]; split <;> omega
    have e : (zs.take len).length = len := by rw [List.length_take]; omega
    refine ⟨some a, zs.take len, cap, by rw [e], ?_, by rw [e]; exact hl, by rw [e]; omega⟩
    by_cases h0 : len = 0
    · left; rw [h0]; rfl
    · obtain ⟨b, off, rfl, hc'⟩ := ints_at hcell (by omega)
      refine .inr ⟨b, off, rfl, fun j hj => ?_⟩
      rw [e] at hj
      rw [hc' j (by omega)]
      congr 2
      simp [List.getD, hj]
theorem pat_of {r : Reach} {b0 : Nat} {v : Value} {d : DataW H} {p : List MemPlace} (hv : Value.okWide Tryd.prog w r b0 41 v) (h : DataW.Trod enc Tryd.prog w base spare held 41 v d p) :
    ∃ (q : Nat → Int) (pf : Option Addr) (F : List Int) (cap : Nat), v = .agg #[.int .i64 (q 0), .int .i64 (q 1), .int .i64 (q 2), .int .i64 (q 3), .int .i64 (q 4), .int .i64 (q 5), .int .i64 (q 6), .slice pf F.length cap] ∧ DaysIn w pf F ∧ F.length ≤ cap ∧ F.length ≤ maxLen := by
  obtain ⟨cs, rfl, hsz⟩ := okWide_struct Tryd.underlying41 hv
  obtain ⟨fuel, hf⟩ := h
  obtain ⟨xs, n, _, hx, hl, hlen, hg⟩ := DataW.trod_struct Tryd.underlying41 hf
  rw [show Tryd.prog.cellsOf 41 = 8 by kernel_rfl] at hsz
  obtain ⟨l⟩ := cs
  match l, hsz with
  | [c0, c1, c2, c3, c4, c5, c6, c7], _ =>
    match xs, hlen with
    | [y0, y1], _ =>
      have g0 : DataW.trod enc Tryd.prog w base spare held n 23 ([c0, c1, c2, c3, c4, c5, c6, c7].take (Tryd.prog.cellsOf 23)) = some y0 := hg 0 _ rfl
      have g1 : DataW.trod enc Tryd.prog w base spare held n 37 (([c0, c1, c2, c3, c4, c5, c6, c7].drop 7).take (Tryd.prog.cellsOf 37)) = some y1 := hg 1 _ rfl
      rw [show Tryd.prog.cellsOf 23 = 7 by kernel_rfl] at g0
      rw [show Tryd.prog.cellsOf 37 = 1 by kernel_rfl] at g1
      obtain ⟨a0, a1, a2, a3, a4, a5, a6, he⟩ := week_of (x := y0) g0
      obtain ⟨pf, F, cap, hs, hD, hc1, hc2⟩ := free_of (x := y1) (c := c7) g1
      simp at he
      obtain ⟨rfl, rfl, rfl, rfl, rfl, rfl, rfl⟩ := he
      subst hs
      exact ⟨atL [a0, a1, a2, a3, a4, a5, a6], pf, F, cap, rfl, hD, hc1, hc2⟩
theorem week_arg {r : Reach} {b0 : Nat} {v : Value} {d : DataW H} {p : List MemPlace} (hv : Value.okWide Tryd.prog w r b0 23 v) (h : DataW.Trod enc Tryd.prog w base spare held 23 v d p) :
    ∃ q : Nat → Int, v = .agg #[.int .i64 (q 0), .int .i64 (q 1), .int .i64 (q 2), .int .i64 (q 3), .int .i64 (q 4), .int .i64 (q 5), .int .i64 (q 6)] := by
  obtain ⟨cs, rfl, hsz⟩ := okWide_arr uWeek hv
  obtain ⟨fuel, hf⟩ := h
  obtain ⟨l⟩ := cs
  obtain ⟨a0, a1, a2, a3, a4, a5, a6, he⟩ := week_of (x := (d, p)) hf
  simp [Value.cells] at he
  subst he
  exact ⟨atL [a0, a1, a2, a3, a4, a5, a6], rfl⟩
end

/-- The variables that the rows of week list. -/
def laid9 : List (String × DataW Unit) := [("math/bits.deBruijn32tab", Rows.laid_math_bits_deBruijn32tab), ("math/bits.deBruijn64tab", Rows.laid_math_bits_deBruijn64tab), ("internal/strconv.uint64pow10", Rows.laid_internal_strconv_uint64pow10), ("unicode/utf8.acceptRanges", Rows.laid_unicode_utf8_acceptRanges), ("strconv.ErrRange", Rows.laid_strconv_ErrRange), ("strconv.ErrSyntax", Rows.laid_strconv_ErrSyntax), ("unicode/utf8.first", Rows.laid_unicode_utf8_first)]

theorem gPow : Tryd.prog.globalNamed "internal/strconv.uint64pow10" = some 0 := by kernel_rfl
theorem tPow : (Tryd.prog.globals[0]?).map (·.type) = some 87 := by kernel_rfl
theorem cPow : Tryd.prog.cellsOf 87 = 20 := by kernel_rfl
theorem cU64 : Tryd.prog.cellsOf 48 = 1 := by kernel_rfl
theorem ePow : (Rows.laid_internal_strconv_uint64pow10 : DataW Unit) = tabData .u64 pow10Tab := rfl
theorem gErr : Tryd.prog.globalNamed "strconv.ErrRange" = some 3 := by kernel_rfl
theorem tErr : (Tryd.prog.globals[3]?).map (·.type) = some 59 := by kernel_rfl

set_option maxRecDepth 100000 in
theorem plain9 : (laid9.all fun x => x.2.handleName?.isNone) = true := by kernel_rfl

set_option maxRecDepth 100000 in
/-- A world in which the variables lie meets the condition. -/
theorem door9 (os : Os) (args : Array Value) : laidMetH Tryd.prog laid9 ((World.laidAll Tryd.prog os laid9).forCall (fun _ _ => 0) ⟨#[], args, []⟩).memory := by
  rw [MakeChecks.laidMetH_plain _ _ _ plain9]; exact laidMet_laidAll _ (by kernel_rfl) (by kernel_rfl)

set_option maxRecDepth 100000 in
theorem shaped9 (os : Os) (args : Array Value) : ((World.laidAll Tryd.prog os laid9).forCall (fun _ _ => 0) ⟨#[], args, []⟩).Shaped Tryd.prog := World.shaped_of_ZipB (by kernel_rfl) (by kernel_rfl)

/-- What the condition gives. -/
theorem tab_of9 {W : World} (h : laidMetH Tryd.prog laid9 W) : Sent W ∧ Tab W := by
  rw [MakeChecks.laidMetH_plain _ _ _ plain9] at h
  obtain ⟨ps, ⟨g0, t0, cs0, f0, p0, q0, hg0, ht0, hv0, hd0, ⟨g1, t1, cs1, f1, p1, q1, hg1, ht1, hv1, hd1, ⟨g2, t2, cs2, f2, p2, q2, hg2, ht2, hv2, hd2, ⟨g3, t3, cs3, f3, p3, q3, hg3, ht3, hv3, hd3, ⟨g4, t4, cs4, f4, p4, q4, hg4, ht4, hv4, hd4, _⟩, _⟩, _⟩, _⟩, _⟩, _⟩ := h
  obtain rfl := Option.some.inj (gErr.symm.trans hg4)
  obtain rfl := Option.some.inj (tErr.symm.trans ht4)
  obtain rfl := Option.some.inj (gPow.symm.trans hg2)
  obtain rfl := Option.some.inj (tPow.symm.trans ht2)
  obtain ⟨f1, u, v, hcs, -, -⟩ := iface_of_trod Tryd.underlying59 hd4
  obtain ⟨l⟩ := cs4
  obtain rfl : l = [.iface u v] := hcs
  refine ⟨⟨u, v, by simpa using World.var?_cell gErr hv4 0⟩, ?_⟩
  unfold Tab TabIs
  rw [ePow] at hd2
  rw [hv2, ← cells_of_tab Tryd.underlying87 Tryd.underlying48 cU64 cPow hd2]

end Go.Proofs.YtbgilplaefdhbaaDoor
