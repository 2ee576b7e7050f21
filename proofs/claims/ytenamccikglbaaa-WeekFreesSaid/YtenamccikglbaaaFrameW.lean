/-
  What is proved: two facts on the program as a whole that each statement's frame asks for, and what patterns, weeks and small arrays that came in give to a walk. Conditions: none.
-/
import Derived.Test.YtenamccikglbaaaWkI
import Derived.ProofKit
import Derived.OpenShut
import Derived.ShutString
import Derived.ChangeOld
import Derived.Stop.Joined
import Derived.Lib.SmallJoins
namespace Go.Proofs.Ytenamccikglbaaa
open Go Go.ChangeShapes Go.WideShapes Go.ChangeAt Go.RowKit

theorem own : ownKnob Try.prog.godebug = none := by kernel_rfl
theorem laidOut : laidOutB Try.prog = true := by kernel_rfl
def in64 (n : Int) : Prop := -9223372036854775808 ≤ n ∧ n ≤ 9223372036854775807
theorem in64_wf {n : Int} (h : (Lit.int .i64 n).wf = true) : in64 n := by
  simp [Lit.wf, IntKind.min, IntKind.max, IntKind.signed, IntKind.bits] at h
  unfold in64
  omega
theorem okWide_arr {P : Program} {w : World} {r : Reach} {base : Nat} {t : TypeId} {v : Value} {n : Nat} {e : TypeId} (ht : P.underlying t = some (.array n e)) (h : Value.okWide P w r base t v) : ∃ cs, v = .agg cs ∧ cs.size = P.cellsOf t := by
  simp only [Value.okWide, ht] at h
  obtain ⟨cs, h1, h2, _⟩ := h
  exact ⟨cs, h1, h2⟩
/-- A list's numbers, by their place. -/
def atL (l : List Int) : Nat → Int := fun i => l.getD i 0
section
variable {H : Type} {enc : TypeId × Value → H} {w : World} {base : Nat} {spare : Nat → Bool} {held : Bool} {fuel : Nat} {x : DataW H × List MemPlace}
/-- Seven integers. -/
theorem week_of {cs : List Value} (h : DataW.trod enc Try.prog w base spare held fuel 23 cs = some x) :
    ∃ a0 a1 a2 a3 a4 a5 a6 : Int, cs = [.int .i64 a0, .int .i64 a1, .int .i64 a2, .int .i64 a3, .int .i64 a4, .int .i64 a5, .int .i64 a6] := by
  obtain ⟨xs, m, _, _, hl, hx, hall⟩ := DataW.trod_array uWeek h
  rw [show Try.prog.cellsOf 23 = 7 by kernel_rfl] at hl
  rw [cInt] at hall
  match cs, hl with
  | [c0, c1, c2, c3, c4, c5, c6], _ =>
    match xs, hx with
    | [y0, y1, y2, y3, y4, y5, y6], _ =>
      have e : ∀ {c : Value} {y : DataW H × List MemPlace}, DataW.trod enc Try.prog w base spare held m 3 [c] = some y → ∃ a, c = .int .i64 a := fun h => by
        obtain ⟨n, hn, _⟩ := DataW.trod_int (t := 3) Try.underlying3 h
        exact ⟨n, by simpa using hn⟩
      obtain ⟨a0, rfl⟩ := e (by simpa using hall 0 (by omega))
      obtain ⟨a1, rfl⟩ := e (by simpa using hall 1 (by omega))
      obtain ⟨a2, rfl⟩ := e (by simpa using hall 2 (by omega))
      obtain ⟨a3, rfl⟩ := e (by simpa using hall 3 (by omega))
      obtain ⟨a4, rfl⟩ := e (by simpa using hall 4 (by omega))
      obtain ⟨a5, rfl⟩ := e (by simpa using hall 5 (by omega))
      obtain ⟨a6, rfl⟩ := e (by simpa using hall 6 (by omega))
      exact ⟨a0, a1, a2, a3, a4, a5, a6, rfl⟩
/-- Free days. -/
theorem free_of {c : Value} (h : DataW.trod enc Try.prog w base spare held fuel 24 [c] = some x) :
    ∃ (p : Option Addr) (F : List Int) (cap : Nat), c = .slice p F.length cap ∧ DaysIn w p F ∧ F.length ≤ cap ∧ F.length ≤ maxLen := by
  rcases open_ints (k := .i64) Try.underlying24 Try.underlying27 (by kernel_rfl) h with ⟨hcs, _⟩ | ⟨a, len, cap, zs, hcs, _, hl, hm, hz, _, hcell, hwz⟩
  · simp at hcs
    subst hcs
    exact ⟨none, [], 0, rfl, .inl rfl, Nat.le_refl _, by simp [maxLen]⟩
  · simp at hcs
    subst hcs
    have hlen : len ≤ zs.length := by rw [hz]; split <;> omega
    have e : (zs.take len).length = len := by rw [List.length_take]; omega
    refine ⟨some a, zs.take len, cap, by rw [e], ?_, by rw [e]; exact hl, by rw [e]; omega⟩
    by_cases h0 : len = 0
    · left; rw [h0]; rfl
    · obtain ⟨b, off, rfl, hc'⟩ := ints_at hcell (by omega)
      refine .inr ⟨b, off, rfl, fun j hj => ?_⟩
      rw [e] at hj
      rw [hc' j (by omega)]
      congr 2
      simp [List.getD, hj]
theorem pat_of {r : Reach} {b0 : Nat} {v : Value} {d : DataW H} {p : List MemPlace} (hv : Value.okWide Try.prog w r b0 26 v) (h : DataW.Trod enc Try.prog w base spare held 26 v d p) :
    ∃ (q : Nat → Int) (pf : Option Addr) (F : List Int) (cap : Nat), v = .agg #[.int .i64 (q 0), .int .i64 (q 1), .int .i64 (q 2), .int .i64 (q 3), .int .i64 (q 4), .int .i64 (q 5), .int .i64 (q 6), .slice pf F.length cap] ∧ DaysIn w pf F ∧ F.length ≤ cap ∧ F.length ≤ maxLen := by
  obtain ⟨cs, rfl, hsz⟩ := okWide_struct Try.underlying26 hv
  obtain ⟨fuel, hf⟩ := h
  obtain ⟨xs, n, _, hx, hl, hlen, hg⟩ := DataW.trod_struct Try.underlying26 hf
  rw [show Try.prog.cellsOf 26 = 8 by kernel_rfl] at hsz
  obtain ⟨l⟩ := cs
  match l, hsz with
  | [c0, c1, c2, c3, c4, c5, c6, c7], _ =>
    match xs, hlen with
    | [y0, y1], _ =>
      have g0 : DataW.trod enc Try.prog w base spare held n 23 ([c0, c1, c2, c3, c4, c5, c6, c7].take (Try.prog.cellsOf 23)) = some y0 := hg 0 _ rfl
      have g1 : DataW.trod enc Try.prog w base spare held n 24 (([c0, c1, c2, c3, c4, c5, c6, c7].drop 7).take (Try.prog.cellsOf 24)) = some y1 := hg 1 _ rfl
      rw [show Try.prog.cellsOf 23 = 7 by kernel_rfl] at g0
      rw [show Try.prog.cellsOf 24 = 1 by kernel_rfl] at g1
      obtain ⟨a0, a1, a2, a3, a4, a5, a6, he⟩ := week_of (x := y0) g0
      obtain ⟨pf, F, cap, hs, hD, hc1, hc2⟩ := free_of (x := y1) (c := c7) g1
      simp at he
      obtain ⟨rfl, rfl, rfl, rfl, rfl, rfl, rfl⟩ := he
      subst hs
      exact ⟨atL [a0, a1, a2, a3, a4, a5, a6], pf, F, cap, rfl, hD, hc1, hc2⟩
theorem week_arg {r : Reach} {b0 : Nat} {v : Value} {d : DataW H} {p : List MemPlace} (hv : Value.okWide Try.prog w r b0 23 v) (h : DataW.Trod enc Try.prog w base spare held 23 v d p) :
    ∃ q : Nat → Int, v = .agg #[.int .i64 (q 0), .int .i64 (q 1), .int .i64 (q 2), .int .i64 (q 3), .int .i64 (q 4), .int .i64 (q 5), .int .i64 (q 6)] := by
  obtain ⟨cs, rfl, hsz⟩ := okWide_arr uWeek hv
  obtain ⟨fuel, hf⟩ := h
  obtain ⟨l⟩ := cs
  obtain ⟨a0, a1, a2, a3, a4, a5, a6, he⟩ := week_of (x := (d, p)) hf
  simp [Value.cells] at he
  subst he
  exact ⟨atL [a0, a1, a2, a3, a4, a5, a6], rfl⟩
theorem two_arg {r : Reach} {b0 : Nat} {v : Value} {d : DataW H} {p : List MemPlace} (hv : Value.okWide Try.prog w r b0 43 v) (h : DataW.Trod enc Try.prog w base spare held 43 v d p) :
    ∃ a b : Int, v = .agg #[.int .u8 a, .int .u8 b] ∧ 0 ≤ a ∧ a ≤ 255 ∧ 0 ≤ b ∧ b ≤ 255 := by
  obtain ⟨cs, rfl, hsz⟩ := okWide_arr Try.underlying43 hv
  obtain ⟨fuel, hf⟩ := h
  obtain ⟨l⟩ := cs
  obtain ⟨xs, m, _, _, hl, hx, hall⟩ := DataW.trod_array Try.underlying43 hf
  rw [show Try.prog.cellsOf 43 = 2 by kernel_rfl] at hsz
  rw [show Try.prog.cellsOf 5 = 1 by kernel_rfl] at hall
  match l, hsz with
  | [c0, c1], _ =>
    match xs, hx with
    | [y0, y1], _ =>
      have e : ∀ {c : Value} {y : DataW H × List MemPlace}, DataW.trod enc Try.prog w base spare held m 5 [c] = some y → ∃ a, c = .int .u8 a ∧ 0 ≤ a ∧ a ≤ 255 := fun h => by
        obtain ⟨n, hn, _, hw⟩ := DataW.trod_int (t := 5) Try.underlying5 h
        refine ⟨n, by simpa using hn, ?_⟩
        simp [Lit.wf, IntKind.min, IntKind.max, IntKind.signed, IntKind.bits] at hw
        omega
      obtain ⟨a0, rfl, h0⟩ := e (by simpa [Value.cells] using hall 0 (by omega))
      obtain ⟨a1, rfl, h1⟩ := e (by simpa [Value.cells] using hall 1 (by omega))
      exact ⟨a0, a1, rfl, h0.1, h0.2, h1.1, h1.2⟩
end

end Go.Proofs.Ytenamccikglbaaa
