/-
  What is proved: what the two listed tables give to a call, that the program's own start meets that condition, and what bytes that came in give to a walk. Conditions: none.
-/
import Derived.Test.YtogdiiengbmiiaaDoorTopProratesWalk
import Derived.ProofKit
import Derived.LaidMore
import Derived.OpenShut
import Derived.ShutString
import Derived.ChangeOld
import Derived.Lib.LaidTab
import Derived.Stop.Joined
namespace Go.Proofs.YtogdiiengbmiiaaDoor
open Go Go.ChangeShapes Go.WideShapes Go.ChangeAt Go.RowKit Go.Lib
set_option linter.unusedVariables false
set_option linter.unusedSimpArgs false

theorem own : ownKnob Tryd.prog.godebug = none := by kernel_rfl
theorem laidOut : laidOutB Tryd.prog = true := by kernel_rfl

/-- The tables that the row lists. -/
def laid2 : List (String × DataW Unit) := [("wagebook/civil.lengths", Rows.laid_wagebook_civil_lengths), ("wagebook/period.lengths", Rows.laid_wagebook_period_lengths)]
def lenTab : List Int := [31, 28, 31, 30, 31, 30, 31, 31, 30, 31, 30, 31]
def plenTab : List Int := [0, 14, 28]
theorem gLen : Tryd.prog.globalNamed "wagebook/civil.lengths" = some 1 := by kernel_rfl
theorem tLen : (Tryd.prog.globals[1]?).map (·.type) = some 98 := by kernel_rfl
theorem cLen : Tryd.prog.cellsOf 98 = 12 := by kernel_rfl
theorem cInt : Tryd.prog.cellsOf 3 = 1 := by kernel_rfl
theorem eLen : (Rows.laid_wagebook_civil_lengths : DataW Unit) = tabData .i64 lenTab := rfl
theorem gPLen : Tryd.prog.globalNamed "wagebook/period.lengths" = some 0 := by kernel_rfl
theorem tPLen : (Tryd.prog.globals[0]?).map (·.type) = some 81 := by kernel_rfl
theorem cPLen : Tryd.prog.cellsOf 81 = 3 := by kernel_rfl
theorem ePLen : (Rows.laid_wagebook_period_lengths : DataW Unit) = tabData .i64 plenTab := rfl

/-- The program's own start meets the condition. -/
theorem door2 (os : Os) (args : Array Value) : laidMetH Tryd.prog laid2 ((World.doorLaid Tryd.prog 400 os).forCall (fun _ _ => 0) ⟨#[], args, []⟩).memory :=
  laidMetH_of_parts3 (fuel := 8) (laidMet_of_run' 8 (by kernel_rfl) (by kernel_rfl)) (by kernel_rfl) (by kernel_rfl)

/-- What the condition gives. -/
theorem tab_of2 {W : World} (h : laidMetH Tryd.prog laid2 W) : Pe.Tabs W := by
  rw [MakeChecks.laidMetH_plain _ _ _ (by kernel_rfl)] at h
  obtain ⟨ps, ⟨g0, t0, cs0, f0, p0, q0, hg0, ht0, hv0, hd0, ⟨g1, t1, cs1, f1, p1, q1, hg1, ht1, hv1, hd1, _⟩, _⟩, _⟩ := h
  have T3 : TabIs Tryd.prog W "wagebook/civil.lengths" .i64 lenTab := by
    obtain rfl := Option.some.inj (gLen.symm.trans hg0)
    obtain rfl := Option.some.inj (tLen.symm.trans ht0)
    unfold TabIs
    rw [eLen] at hd0
    rw [hv0, ← cells_of_tab Tryd.underlying98 Tryd.underlying3 cInt cLen hd0]
  have T4 : TabIs Tryd.prog W "wagebook/period.lengths" .i64 plenTab := by
    obtain rfl := Option.some.inj (gPLen.symm.trans hg1)
    obtain rfl := Option.some.inj (tPLen.symm.trans ht1)
    unfold TabIs
    rw [ePLen] at hd1
    rw [hv1, ← cells_of_tab Tryd.underlying81 Tryd.underlying3 cInt cPLen hd1]
  refine ⟨fun k hk => ?_, ?_, ?_, ?_⟩
  · rw [T3.cell gLen k hk]
    have e : k = 0 ∨ k = 1 ∨ k = 2 ∨ k = 3 ∨ k = 4 ∨ k = 5 ∨ k = 6 ∨ k = 7 ∨ k = 8 ∨ k = 9 ∨ k = 10 ∨ k = 11 := by omega
    rcases e with rfl | rfl | rfl | rfl | rfl | rfl | rfl | rfl | rfl | rfl | rfl | rfl <;> rfl
  · rw [T4.cell gPLen 0 (by decide)]; rfl
  · rw [T4.cell gPLen 1 (by decide)]; rfl
  · rw [T4.cell gPLen 2 (by decide)]; rfl

theorem wf_u8 {n : Int} (h : (Lit.int .u8 n).wf = true) : 0 ≤ n ∧ n ≤ 255 := by
  simp [Lit.wf, IntKind.min, IntKind.max, IntKind.signed, IntKind.bits] at h
  omega
theorem wf_u16 {n : Int} (h : (Lit.int .u16 n).wf = true) : 0 ≤ n ∧ n ≤ 65535 := by
  simp [Lit.wf, IntKind.min, IntKind.max, IntKind.signed, IntKind.bits] at h
  omega
theorem wf_u32 {n : Int} (h : (Lit.int .u32 n).wf = true) : 0 ≤ n ∧ n ≤ 4294967295 := by
  simp [Lit.wf, IntKind.min, IntKind.max, IntKind.signed, IntKind.bits] at h
  omega
section
variable {H : Type} {enc : TypeId × Value → H} {w : World} {base : Nat} {spare : Nat → Bool} {held : Bool}
theorem bytes_of {fuel : Nat} {a : Option Addr} {len cap : Nat} {x : DataW H × List MemPlace} (h : DataW.trod enc Tryd.prog w base spare held fuel 24 [.slice a len cap] = some x) : Bytes w a len := by
  rcases open_ints Tryd.underlying24 Tryd.underlying5 (by kernel_rfl) h with ⟨hcs, _⟩ | ⟨y, l, c, zs, hcs, _, hl, hm, hz, _, hcell, hwz⟩
  · simp at hcs
    obtain ⟨rfl, rfl, rfl⟩ := hcs
    exact .inl rfl
  · simp at hcs
    obtain ⟨rfl, rfl, rfl⟩ := hcs
    have hlz : len ≤ zs.length := by rw [hz]; split <;> omega
    by_cases h0 : len = 0
    · exact .inl h0
    · obtain ⟨b, off, rfl, hc⟩ := ints_at hcell (by omega)
      refine .inr ⟨b, off, rfl, fun j hj => ⟨zs.getD j 0, hc j (by omega), wf_u8 (hwz _ ?_)⟩⟩
      have hj' : j < zs.length := by omega
      rw [show zs.getD j 0 = zs[j] by simp [List.getD, hj']]
      exact List.getElem_mem _
end
/-- The walk, of what the frame gives. -/
theorem walkTopProrates (a0 a1 a2 a3 a4 a5 : Int) (a6 : Option Addr) (len cap : Nat) (w : World) (h0 : (Lit.int .u8 a0).wf = true) (h1 : (Lit.int .u8 a1).wf = true) (h2 : (Lit.int .u16 a2).wf = true) (h3 : (Lit.int .u8 a3).wf = true) (h4 : (Lit.int .u32 a4).wf = true) (h5 : (Lit.int .u8 a5).wf = true) (h6 : Bytes w a6 len) (hT : Pe.Tabs w) :
    Calls Tryd.prog 3 #[.int .u8 a0, .int .u8 a1, .int .u16 a2, .int .u8 a3, .int .u32 a4, .int .u8 a5, .slice a6 len cap] w fun e w' => e = .returned (.bool true) ∧ Below w.heap.size w w' :=
  walkTop a0 a1 a2 a3 a4 a5 a6 len cap w (wf_u8 h0) (wf_u8 h1) (wf_u16 h2) (wf_u8 h3) (wf_u32 h4) (wf_u8 h5) h6 hT

end Go.Proofs.YtogdiiengbmiiaaDoor
