/-
  What is proved: two facts on the program as a whole that each statement's frame asks for, and what items, limits and cases that came in give to a walk. Conditions: none.
-/
import Derived.Test.YtaeldoipflcknaaBfL
import Derived.ProofKit
import Derived.OpenShut
import Derived.ShutString
import Derived.ChangeOld
import Derived.Stop.Joined
import Derived.Deep.Slices
import Derived.ChangeSame
namespace Go.Proofs.Ytaeldoipflcknaa
open Go Go.ChangeShapes Go.WideShapes Go.ChangeAt Go.RowKit
set_option linter.unusedVariables false

theorem own : ownKnob Try.prog.godebug = none := by kernel_rfl
theorem laidOut : laidOutB Try.prog = true := by kernel_rfl
theorem okWide_arr {P : Program} {w : World} {r : Reach} {base : Nat} {t : TypeId} {v : Value} {n : Nat} {e : TypeId} (ht : P.underlying t = some (.array n e)) (h : Value.okWide P w r base t v) : ∃ cs, v = .agg cs ∧ cs.size = P.cellsOf t := by
  simp only [Value.okWide, ht] at h
  obtain ⟨cs, h1, h2, _⟩ := h
  exact ⟨cs, h1, h2⟩
/-- Items that came in. -/
def ItArg (w : World) (a : Option Addr) (len : Nat) (L : Ti) : Prop := L.length = len ∧ len ≤ maxLen ∧ SzI L ∧ ItLs w a L
def LmArg (w : World) (a : Option Addr) (len : Nat) (L : List Lm) : Prop := L.length = len ∧ len ≤ maxLen ∧ SzL L ∧ LmLs w a L
/-- What the walk is told of a slice of integers that came in. -/
def IsRow (k : IntKind) (w : World) (a : Option Addr) (len cap : Nat) (zs : List Int) : Prop :=
  (a = none ∧ len = 0 ∧ cap = 0 ∧ zs = []) ∨
  ∃ x, a = some x ∧ len ≤ cap ∧ cap ≤ maxLen ∧ zs.length = cap ∧ (∀ i, i < zs.length → w.cell? (x.add i) = some (.int k (zs.getD i 0))) ∧ ∀ n ∈ zs, (Lit.int k n).wf = true
theorem getD_ofFn {α : Type} (f : Nat → α) (d : α) (n j : Nat) (h : j < n) : ((List.range n).map f).getD j d = f j := by
  rw [List.getD_eq_getElem?_getD, List.getElem?_map, List.getElem?_range h]; rfl
section
variable {H : Type} {enc : TypeId × Value → H} {w : World} {base : Nat} {spare : Nat → Bool} {held : Bool}
theorem int_of {t : TypeId} {fuel : Nat} {c : Value} {y : DataW H × List MemPlace} (hu : Try.prog.underlying t = some (.int .i64)) (h : DataW.trod enc Try.prog w base spare held fuel t [c] = some y) : ∃ a : Int, c = .int .i64 a ∧ (Lit.int .i64 a).wf = true := by
  obtain ⟨n, hn, _, hw⟩ := DataW.trod_int (t := t) hu h
  exact ⟨n, by simpa using hn, hw⟩
set_option maxRecDepth 100000 in
theorem two_cells {T : TypeId} (hT : T = 43 ∨ T = 60) {fuel : Nat} {cs : List Value} {x : DataW H × List MemPlace} (h : DataW.trod enc Try.prog w base spare held fuel T cs = some x) (hl : cs.length = 2) :
    ∃ (s : ByteArray) (a : Int), cs = [.string s, .int .i64 a] ∧ s.size ≤ maxLen := by
  match cs, hl with
  | [c0, c1], _ =>
    have fin : ∀ {n : Nat} {y0 y1 : DataW H × List MemPlace}, DataW.trod enc Try.prog w base spare held n 9 ([c0, c1].take (Try.prog.cellsOf 9)) = some y0 → DataW.trod enc Try.prog w base spare held n 22 (([c0, c1].drop 1).take (Try.prog.cellsOf 22)) = some y1 → ∃ (s : ByteArray) (a : Int), [c0, c1] = [.string s, .int .i64 a] ∧ s.size ≤ maxLen := by
      intro n y0 y1 g0 g1
      rw [show Try.prog.cellsOf 9 = 1 by kernel_rfl] at g0
      rw [show Try.prog.cellsOf 22 = 1 by kernel_rfl] at g1
      obtain ⟨s, hs, _, hz⟩ := DataW.trod_string Try.underlying9 g0
      obtain rfl : c0 = .string s := by simpa using hs
      obtain ⟨a1, rfl, w1⟩ := int_of (c := c1) Try.underlying22 g1
      exact ⟨s, a1, rfl, hz⟩
    rcases hT with rfl | rfl
    · obtain ⟨xs, n, _, hx, hl', hlen, hg⟩ := DataW.trod_struct Try.underlying43 h
      match xs, hlen with
      | [y0, y1], _ => exact fin (hg 0 _ rfl) (hg 1 _ rfl)
    · obtain ⟨xs, n, _, hx, hl', hlen, hg⟩ := DataW.trod_struct Try.underlying60 h
      match xs, hlen with
      | [y0, y1], _ => exact fin (hg 0 _ rfl) (hg 1 _ rfl)
set_option maxRecDepth 100000 in
theorem its_of {S T : TypeId} (hS : Try.prog.underlying S = some (.slice T)) (hT : T = 43 ∨ T = 60) {fuel : Nat} {c : Value} {x : DataW H × List MemPlace} (h : DataW.trod enc Try.prog w base spare held fuel S [c] = some x) :
    ∃ (a : Option Addr) (len cap : Nat) (L : Ti), c = .slice a len cap ∧ ItArg w a len L := by
  have hcs : Try.prog.cellsOf T = 2 := by rcases hT with rfl | rfl <;> kernel_rfl
  rcases Go.Deep.open_slice hS h with ⟨hc, _⟩ | ⟨y, l, cp, m, k, D, Pl, hc, _, hl, hm, hmm, _, hall⟩
  · simp at hc
    exact ⟨_, _, _, [], hc, rfl, by decide, fun k hk => absurd hk (Nat.not_lt_zero _), .inl rfl⟩
  · simp at hc
    have hlm : l ≤ m := by rw [hmm]; split <;> omega
    rw [hcs] at hall
    have hex : ∀ i, ∃ q : ByteArray × Int, i < l → w.cell? (y.add (i * 2)) = some (.string q.1) ∧ w.cell? (y.add (i * 2 + 1)) = some (.int .i64 q.2) ∧ q.1.size ≤ maxLen := fun i => by
      by_cases hi : i < l
      · obtain ⟨cs, h1, h2⟩ := hall i (by omega)
        obtain ⟨_, hlen, hcell⟩ := World.cells?_some h1
        obtain ⟨s, a, rfl, hz⟩ := two_cells hT h2 hlen
        have e0 := hcell 0 (by omega)
        have e1 := hcell 1 (by omega)
        rw [Go.Deep.add_add] at e0 e1
        exact ⟨(s, a), fun _ => ⟨by simpa using e0, by simpa using e1, hz⟩⟩
      · exact ⟨d0, fun h => absurd h hi⟩
    obtain ⟨F, hF⟩ : ∃ F : Nat → ByteArray × Int, ∀ i, i < l → w.cell? (y.add (i * 2)) = some (.string (F i).1) ∧ w.cell? (y.add (i * 2 + 1)) = some (.int .i64 (F i).2) ∧ (F i).1.size ≤ maxLen := ⟨fun i => Classical.choose (hex i), fun i hi => Classical.choose_spec (hex i) hi⟩
    have hlen : ((List.range l).map F).length = l := by simp
    refine ⟨some y, l, cp, (List.range l).map F, hc, hlen, by omega, fun k hk => ?_, ?_⟩
    · rw [hlen] at hk
      rw [getD_ofFn F d0 l k hk]
      exact (hF k hk).2.2
    · by_cases h0 : l = 0
      · exact .inl (by rw [hlen, h0])
      · obtain ⟨b, off, spot⟩ := y
        have hspot : spot = none := by simpa [Addr.add] using World.cell?_spot (hF 0 (by omega)).1
        subst hspot
        refine .inr ⟨b, off, rfl, ?_, fun j hj => ?_⟩
        · have h9 := (hF 0 (by omega)).1
          rw [Go.WideShapes.add_plain] at h9
          exact World.block_lt_of_cell? w _ h9
        · rw [hlen] at hj
          obtain ⟨g0, g1, -⟩ := hF j hj
          rw [Go.WideShapes.add_plain] at g0 g1
          dsimp only
          rw [getD_ofFn F d0 l j hj]
          exact ⟨g0, g1⟩
set_option maxRecDepth 100000 in
theorem three_cells {fuel : Nat} {cs : List Value} {x : DataW H × List MemPlace} (h : DataW.trod enc Try.prog w base spare held fuel 47 cs = some x) (hl : cs.length = 3) :
    ∃ (s : ByteArray) (a b : Int), cs = [.string s, .int .i64 a, .int .i64 b] ∧ s.size ≤ maxLen := by
  obtain ⟨xs, n, _, hx, hl', hlen, hg⟩ := DataW.trod_struct Try.underlying47 h
  match cs, hl with
  | [c0, c1, c2], _ =>
    match xs, hlen with
    | [y0, y1, y2], _ =>
      have g0 : DataW.trod enc Try.prog w base spare held n 9 ([c0, c1, c2].take (Try.prog.cellsOf 9)) = some y0 := hg 0 _ rfl
      have g1 : DataW.trod enc Try.prog w base spare held n 45 (([c0, c1, c2].drop 1).take (Try.prog.cellsOf 45)) = some y1 := hg 1 _ rfl
      have g2 : DataW.trod enc Try.prog w base spare held n 22 (([c0, c1, c2].drop 2).take (Try.prog.cellsOf 22)) = some y2 := hg 2 _ rfl
      rw [show Try.prog.cellsOf 9 = 1 by kernel_rfl] at g0
      rw [show Try.prog.cellsOf 45 = 1 by kernel_rfl] at g1
      rw [show Try.prog.cellsOf 22 = 1 by kernel_rfl] at g2
      obtain ⟨s, hs, _, hz⟩ := DataW.trod_string Try.underlying9 g0
      obtain rfl : c0 = .string s := by simpa using hs
      obtain ⟨a1, rfl, w1⟩ := int_of (c := c1) Try.underlying45 g1
      obtain ⟨a2, rfl, w2⟩ := int_of (c := c2) Try.underlying22 g2
      exact ⟨s, a1, a2, rfl, hz⟩
set_option maxRecDepth 100000 in
theorem lms_of {fuel : Nat} {c : Value} {x : DataW H × List MemPlace} (h : DataW.trod enc Try.prog w base spare held fuel 25 [c] = some x) :
    ∃ (a : Option Addr) (len cap : Nat) (L : List Lm), c = .slice a len cap ∧ LmArg w a len L := by
  rcases Go.Deep.open_slice Try.underlying25 h with ⟨hc, _⟩ | ⟨y, l, cp, m, k, D, Pl, hc, _, hl, hm, hmm, _, hall⟩
  · simp at hc
    exact ⟨_, _, _, [], hc, rfl, by decide, fun k hk => absurd hk (Nat.not_lt_zero _), .inl rfl⟩
  · simp at hc
    have hlm : l ≤ m := by rw [hmm]; split <;> omega
    rw [show Try.prog.cellsOf 47 = 3 by kernel_rfl] at hall
    have hex : ∀ i, ∃ q : Lm, i < l → w.cell? (y.add (i * 3)) = some (.string q.1) ∧ w.cell? (y.add (i * 3 + 1)) = some (.int .i64 q.2.1) ∧ w.cell? (y.add (i * 3 + 2)) = some (.int .i64 q.2.2) ∧ q.1.size ≤ maxLen := fun i => by
      by_cases hi : i < l
      · obtain ⟨cs, h1, h2⟩ := hall i (by omega)
        obtain ⟨_, hlen, hcell⟩ := World.cells?_some h1
        obtain ⟨s, a, b, rfl, hz⟩ := three_cells h2 hlen
        have e0 := hcell 0 (by omega)
        have e1 := hcell 1 (by omega)
        have e2 := hcell 2 (by omega)
        rw [Go.Deep.add_add] at e0 e1 e2
        exact ⟨(s, a, b), fun _ => ⟨by simpa using e0, by simpa using e1, by simpa using e2, hz⟩⟩
      · exact ⟨dL, fun h => absurd h hi⟩
    obtain ⟨F, hF⟩ : ∃ F : Nat → Lm, ∀ i, i < l → w.cell? (y.add (i * 3)) = some (.string (F i).1) ∧ w.cell? (y.add (i * 3 + 1)) = some (.int .i64 (F i).2.1) ∧ w.cell? (y.add (i * 3 + 2)) = some (.int .i64 (F i).2.2) ∧ (F i).1.size ≤ maxLen := ⟨fun i => Classical.choose (hex i), fun i hi => Classical.choose_spec (hex i) hi⟩
    have hlen : ((List.range l).map F).length = l := by simp
    refine ⟨some y, l, cp, (List.range l).map F, hc, hlen, by omega, fun k hk => ?_, ?_⟩
    · rw [hlen] at hk
      rw [getD_ofFn F dL l k hk]
      exact (hF k hk).2.2.2
    · by_cases h0 : l = 0
      · exact .inl (by rw [hlen, h0])
      · obtain ⟨b, off, spot⟩ := y
        have hspot : spot = none := by simpa [Addr.add] using World.cell?_spot (hF 0 (by omega)).1
        subst hspot
        refine .inr ⟨b, off, rfl, ?_, fun j hj => ?_⟩
        · have h9 := (hF 0 (by omega)).1
          rw [Go.WideShapes.add_plain] at h9
          exact World.block_lt_of_cell? w _ h9
        · rw [hlen] at hj
          obtain ⟨g0, g1, g2, -⟩ := hF j hj
          rw [Go.WideShapes.add_plain] at g0 g1 g2
          rw [getD_ofFn F dL l j hj]
          exact ⟨g0, g1, g2⟩
/-- A case that came in. -/
structure Cs where
  g : Int
  pr : Option Addr
  nr : Nat
  cr : Nat
  was : Ti
  pw : Option Addr
  nw : Nat
  cw : Nat
  W : Ti
  pl : Option Addr
  nl : Nat
  cl : Nat
  L : List Lm
def Cs.val (c : Cs) : Value := .agg #[.int .i64 c.g, .slice c.pr c.nr c.cr, .slice c.pw c.nw c.cw, .slice c.pl c.nl c.cl]
def CsIn (w : World) (c : Cs) : Prop := ItArg w c.pr c.nr c.was ∧ ItArg w c.pw c.nw c.W ∧ LmArg w c.pl c.nl c.L
set_option maxRecDepth 100000 in
theorem case_arg {r : Reach} {b0 : Nat} {v : Value} {d : DataW H} {q : List MemPlace} (hv : Value.okWide Try.prog w r b0 27 v) (h : DataW.Trod enc Try.prog w base spare held 27 v d q) :
    ∃ c : Cs, v = c.val ∧ CsIn w c := by
  obtain ⟨cs, rfl, hsz⟩ := okWide_struct Try.underlying27 hv
  rw [show Try.prog.cellsOf 27 = 4 by kernel_rfl] at hsz
  obtain ⟨fuel, hf⟩ := h
  obtain ⟨xs, n, _, hx, hl, hlen, hg⟩ := DataW.trod_struct Try.underlying27 hf
  obtain ⟨l⟩ := cs
  match l, hsz with
  | [c0, c1, c2, c3], _ =>
    match xs, hlen with
    | [y0, y1, y2, y3], _ =>
      have g0 : DataW.trod enc Try.prog w base spare held n 22 ([c0, c1, c2, c3].take (Try.prog.cellsOf 22)) = some y0 := hg 0 _ rfl
      have g1 : DataW.trod enc Try.prog w base spare held n 23 (([c0, c1, c2, c3].drop 1).take (Try.prog.cellsOf 23)) = some y1 := hg 1 _ rfl
      have g2 : DataW.trod enc Try.prog w base spare held n 24 (([c0, c1, c2, c3].drop 2).take (Try.prog.cellsOf 24)) = some y2 := hg 2 _ rfl
      have g3 : DataW.trod enc Try.prog w base spare held n 25 (([c0, c1, c2, c3].drop 3).take (Try.prog.cellsOf 25)) = some y3 := hg 3 _ rfl
      rw [show Try.prog.cellsOf 22 = 1 by kernel_rfl] at g0
      rw [show Try.prog.cellsOf 23 = 1 by kernel_rfl] at g1
      rw [show Try.prog.cellsOf 24 = 1 by kernel_rfl] at g2
      rw [show Try.prog.cellsOf 25 = 1 by kernel_rfl] at g3
      obtain ⟨a0, rfl, w0⟩ := int_of (c := c0) Try.underlying22 g0
      obtain ⟨a1, n1, k1, L1, rfl, h1⟩ := its_of (c := c1) Try.underlying23 (.inr rfl) g1
      obtain ⟨a2, n2, k2, L2, rfl, h2⟩ := its_of (c := c2) Try.underlying24 (.inl rfl) g2
      obtain ⟨a3, n3, k3, L3, rfl, h3⟩ := lms_of (c := c3) g3
      exact ⟨⟨a0, a1, n1, k1, L1, a2, n2, k2, L2, a3, n3, k3, L3⟩, rfl, h1, h2, h3⟩
set_option maxRecDepth 100000 in
theorem two32_arg {r : Reach} {b0 : Nat} {v : Value} {d : DataW H} {p : List MemPlace} (hv : Value.okWide Try.prog w r b0 49 v) (h : DataW.Trod enc Try.prog w base spare held 49 v d p) :
    ∃ a b : Int, v = .agg #[.int .u32 a, .int .u32 b] ∧ 0 ≤ a ∧ a ≤ 4294967295 ∧ 0 ≤ b ∧ b ≤ 4294967295 := by
  obtain ⟨cs, rfl, hsz⟩ := okWide_arr Try.underlying49 hv
  obtain ⟨fuel, hf⟩ := h
  obtain ⟨l⟩ := cs
  obtain ⟨xs, m, _, _, hl, hx, hall⟩ := DataW.trod_array Try.underlying49 hf
  rw [show Try.prog.cellsOf 49 = 2 by kernel_rfl] at hsz
  rw [show Try.prog.cellsOf 48 = 1 by kernel_rfl] at hall
  match l, hsz with
  | [c0, c1], _ =>
    match xs, hx with
    | [y0, y1], _ =>
      have e : ∀ {c : Value} {y : DataW H × List MemPlace}, DataW.trod enc Try.prog w base spare held m 48 [c] = some y → ∃ a, c = .int .u32 a ∧ 0 ≤ a ∧ a ≤ 4294967295 := fun h => by
        obtain ⟨n, hn, _, hw⟩ := DataW.trod_int (t := 48) Try.underlying48 h
        refine ⟨n, by simpa using hn, ?_⟩
        simp [Lit.wf, IntKind.min, IntKind.max, IntKind.signed, IntKind.bits] at hw
        omega
      obtain ⟨a0, rfl, h0⟩ := e (by simpa [Value.cells] using hall 0 (by omega))
      obtain ⟨a1, rfl, h1⟩ := e (by simpa [Value.cells] using hall 1 (by omega))
      exact ⟨a0, a1, rfl, h0.1, h0.2, h1.1, h1.2⟩
end

end Go.Proofs.Ytaeldoipflcknaa
