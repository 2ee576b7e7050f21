/-
  What is proved: the contracts of All of a set, of span.Length and of the document's own Length. Conditions: at most 100000 spans, of 64 bits.
-/
import Derived.Test.YtamglmenljgbdaaSqG
import Derived.Deep.RegionHeld3
import Derived.Lib.EndianBits
namespace Go.Proofs.Ytamglmenljgbdaa.Sp
open Go Go.RowKit Go.Proofs Go.Shelf

/-- A call that returns a set's spans. -/
def ListPost (N : Nat) (P : Int → Bool) (w : World) (e : Ending) (w' : World) : Prop :=
  ∃ (K : List Sp) (q : Option Addr) (c : Nat), e = .returned (.slice q K.length c) ∧ Canon K ∧ (∀ d, Mem K d ↔ P d = true) ∧ (∀ s ∈ K, in64 s.1 ∧ in64 s.2) ∧ K.length ≤ N ∧ SpansIn w' q K ∧ Below w.heap.size w w'
theorem u64_sub {a b : Int} (ha : in64 a) (hb : in64 b) (h : a < b) : IntKind.u64.wrap (IntKind.u64.wrap b - IntKind.u64.wrap a) = b - a := by
  unfold in64 at ha hb
  rw [IntKind.wrap_u64, IntKind.wrap_u64, IntKind.wrap_u64]
  omega
theorem cut62_min (x : Int) : min x 4611686018427387904 = cut62 x := by unfold cut62; split <;> omega
set_option maxHeartbeats 1000000 in
set_option maxRecDepth 100000 in
theorem Length_any (a b : Int) (w : World) (ha : in64 a) (hb : in64 b) : Calls Try.prog 31 #[.agg #[.int .i64 a, .int .i64 b]] w fun e w' => e = .returned (.int .i64 (cut62 (lenS (a, b)))) ∧ Below w.heap.size w w' := by
  have hb1 := (Below.refl w.heap.size w).alloc (Nat.le_refl _) (.cells #[.int .i64 a, .int .i64 b] 24)
  have hz1 : (w.alloc (.cells #[.int .i64 a, .int .i64 b] 24)).heap.size = w.heap.size + 1 := by simp
  have x1 : (w.alloc (.cells #[.int .i64 a, .int .i64 b] 24)).cell? ⟨w.heap.size, 0, none⟩ = some (.int .i64 a) := by rw [World.cell?_alloc_new]; rfl
  have x2 : (w.alloc (.cells #[.int .i64 a, .int .i64 b] 24)).cell? ⟨w.heap.size, 1, none⟩ = some (.int .i64 b) := by rw [World.cell?_alloc_new]; rfl
  by_cases h : b ≤ a
  · have he : emB (a, b) = true := by simp [emB, h]
    rw [show cut62 (lenS (a, b)) = 0 by simp [lenS, h, cut62]]
    go_enter Try.func31, Try.ntmps31
    go_wp2_with fail
    refine (isEmpty_any _ _ _).mono ?_
    rintro e w2 ⟨rfl, hb2⟩
    rw [he]
    go_wp2
    go_ret
    exact ⟨rfl, hb1.trans (hb2.mono (by omega))⟩
  · have he : emB (a, b) = false := by simp [emB]; omega
    have hl : lenS (a, b) = b - a := by simp only [lenS]; rw [if_neg h]
    have hw := u64_sub ha hb (by omega)
    rw [hl]
    unfold in64 at ha hb
    go_enter Try.func31, Try.ntmps31
    go_wp2_with fail
    refine (isEmpty_any _ _ _).mono ?_
    rintro e w2 ⟨rfl, hb2⟩
    rw [he]
    have y1 := (hb2.cell (p := ⟨w.heap.size, 0, none⟩) (by show w.heap.size < _; omega)).trans x1
    have y2 := (hb2.cell (p := ⟨w.heap.size, 1, none⟩) (by show w.heap.size < _; omega)).trans x2
    have hb3 := hb1.trans (hb2.mono (by omega))
    clear x1 x2 hb1 hb2 hl
    go_wp2
    go_ret
    exact ⟨by rw [cut62_min]; rfl, hb3⟩

end Go.Proofs.Ytamglmenljgbdaa.Sp
