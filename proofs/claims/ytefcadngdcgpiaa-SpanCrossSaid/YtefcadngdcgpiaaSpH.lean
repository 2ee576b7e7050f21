/-
  What is proved: the contracts of All of a set, of span.Length and of the document's own Length. Conditions: at most 100000 spans, of 64 bits.
-/
import Derived.Test.YtefcadngdcgpiaaSpG
import Derived.Deep.RegionHeld3
import Derived.Lib.EndianBits
namespace Go.Proofs.Ytefcadngdcgpiaa
open Go Go.RowKit Go.Proofs Go.Shelf

/-- A call that returns a set's spans. -/
def ListPost (N : Nat) (P : Int → Bool) (w : World) (e : Ending) (w' : World) : Prop :=
  ∃ (K : List Sp) (q : Option Addr) (c : Nat), e = .returned (.slice q K.length c) ∧ Canon K ∧ (∀ d, Mem K d ↔ P d = true) ∧ (∀ s ∈ K, in64 s.1 ∧ in64 s.2) ∧ K.length ≤ N ∧ SpansIn w' q K ∧ Below w.heap.size w w'
set_option maxRecDepth 100000 in
theorem cloneSp_any (p : Option Addr) (c : Nat) (K : List Sp) (w : World) (hn : K.length ≤ 100000) (hs : ∀ a, p = some a → a.spot = none) (h : SpansIn w p K) :
    Calls Try.prog 33 #[.slice p K.length c] w fun e w' => ∃ q cq, e = .returned (.slice q K.length cq) ∧ SpansIn w' q K ∧ Below w.heap.size w w' := by
  match p, hs, h with
  | none, _, h =>
    have hk : K = [] := by
      rcases h with h | ⟨b, o, h, _⟩
      · exact h
      · cases h
    subst hk
    have hcon := AnyE.slices_Clone_nil Try.laysCloneSp 0 c w
    change Calls Try.prog 33 _ _ _ at hcon
    exact hcon.mono fun e w' ⟨he, hw⟩ => ⟨none, 0, he, .inl rfl, by rw [hw]; exact Below.refl _ _⟩
  | some ⟨b, o, sp⟩, hs, h =>
    obtain rfl : sp = none := hs _ rfl
    obtain ⟨i, hi, hz0, hz1, hz2⟩ := info_of infoSpan
    have hcon := AnyE.slices_Clone Try.laysCloneSp i (.agg #[.int .i64 0, .int .i64 0]) 2 16 hi hz0 hz1 hz2 rfl (by omega) Try.sizeOf39 b o K.length c (spC K) w (spC_len K) (by unfold maxLen; omega) (by omega) (fun j u hu => by
      have hj : j < K.length * 2 := by rw [← spC_len]; exact (List.getElem?_eq_some_iff.1 hu).1
      rcases h with h | ⟨b', o', hp, hc⟩
      · subst h; simp at hj
      · injection hp with hp
        injection hp with h1 h2
        subst h1; subst h2
        obtain ⟨a1, a2⟩ := spC_at K (j / 2) (by omega)
        obtain ⟨c1, c2⟩ := hc (j / 2) (by omega)
        rcases (show j = j / 2 * 2 ∨ j = j / 2 * 2 + 1 by omega) with e | e
        · rw [e] at hu ⊢; rw [a1] at hu; rw [c1]; exact hu
        · rw [e] at hu ⊢; rw [a2] at hu; rw [← Nat.add_assoc, c2]; exact hu) spC_one
    change Calls Try.prog 33 _ _ _ at hcon
    refine hcon.mono ?_
    rintro e w' ⟨v', rfl, ho, -, hb⟩
    obtain ⟨q, cq, rfl, -⟩ := own_slice ho
    exact ⟨q, cq, rfl, SpansIn.of_own ho, hb⟩
set_option maxRecDepth 100000 in
theorem All_any (v : Value) (N : Nat) (P : Int → Bool) (w : World) (hN : N ≤ 100000) (h : IsSet w N P v) :
    Calls Try.prog 15 #[v] w (ListPost N P w) := by
  obtain ⟨K, p, c, rfl, k1, m1, a64, l1, hs, s1⟩ := h
  have hb0 := (Below.refl w.heap.size w).alloc (Nat.le_refl _) (.cells #[.slice p K.length c] 26)
  have HC := Lib.hid (cloneSp_any p c K _ (by omega) hs (s1.below hb0 (Nat.le_refl _)))
  have HR : Hid (Canon K ∧ (∀ d, Mem K d ↔ P d = true) ∧ (∀ s ∈ K, in64 s.1 ∧ in64 s.2) ∧ K.length ≤ N) := Lib.hid ⟨k1, m1, a64, l1⟩
  clear k1 m1 a64 hs s1
  go_enter Try.func15, Try.ntmps15
  go_wp2_with fail
  refine (HC.out).mono ?_
  rintro e w2 ⟨q, cq, rfl, hsp, hb⟩
  have HS := Lib.hid hsp
  clear hsp HC
  go_wp2
  go_ret
  obtain ⟨r1, r2, r3, r4⟩ := HR.out
  exact ⟨K, q, cq, rfl, r1, r2, r3, r4, HS.out, hb0.trans (hb.mono (by simp))⟩

theorem u64_sub {a b : Int} (ha : in64 a) (hb : in64 b) (h : a < b) : IntKind.u64.wrap (IntKind.u64.wrap b - IntKind.u64.wrap a) = b - a := by
  unfold in64 at ha hb
  rw [IntKind.wrap_u64, IntKind.wrap_u64, IntKind.wrap_u64]
  omega
theorem cut62_min (x : Int) : min x 4611686018427387904 = cut62 x := by unfold cut62; split <;> omega
set_option maxHeartbeats 1000000 in
set_option maxRecDepth 100000 in
theorem Length_any (a b : Int) (w : World) (ha : in64 a) (hb : in64 b) : Calls Try.prog 24 #[.agg #[.int .i64 a, .int .i64 b]] w fun e w' => e = .returned (.int .i64 (cut62 (lenS (a, b)))) ∧ Below w.heap.size w w' := by
  have hb1 := (Below.refl w.heap.size w).alloc (Nat.le_refl _) (.cells #[.int .i64 a, .int .i64 b] 39)
  have hz1 : (w.alloc (.cells #[.int .i64 a, .int .i64 b] 39)).heap.size = w.heap.size + 1 := by simp
  have x1 : (w.alloc (.cells #[.int .i64 a, .int .i64 b] 39)).cell? ⟨w.heap.size, 0, none⟩ = some (.int .i64 a) := by rw [World.cell?_alloc_new]; rfl
  have x2 : (w.alloc (.cells #[.int .i64 a, .int .i64 b] 39)).cell? ⟨w.heap.size, 1, none⟩ = some (.int .i64 b) := by rw [World.cell?_alloc_new]; rfl
  by_cases h : b ≤ a
  · have he : emB (a, b) = true := by simp [emB, h]
    rw [show cut62 (lenS (a, b)) = 0 by simp [lenS, h, cut62]]
    go_enter Try.func24, Try.ntmps24
    go_wp2_with fail
    refine (isEmpty_any _ _ _).mono ?_
    rintro e w2 ⟨rfl, hb2⟩
    rw [he]
    go_wp2
    go_ret
    exact ⟨rfl, hb1.trans (hb2.mono (by omega))⟩
  · have he : emB (a, b) = false := by simp [emB]; omega
    have hl : lenS (a, b) = b - a := by simp only [lenS]; rw [if_neg h]
    have hw := u64_sub ha hb (by omega)
    rw [hl]
    unfold in64 at ha hb
    go_enter Try.func24, Try.ntmps24
    go_wp2_with fail
    refine (isEmpty_any _ _ _).mono ?_
    rintro e w2 ⟨rfl, hb2⟩
    rw [he]
    have y1 := (hb2.cell (p := ⟨w.heap.size, 0, none⟩) (by show w.heap.size < _; omega)).trans x1
    have y2 := (hb2.cell (p := ⟨w.heap.size, 1, none⟩) (by show w.heap.size < _; omega)).trans x2
    have hb3 := hb1.trans (hb2.mono (by omega))
    clear x1 x2 hb1 hb2 hl
    go_wp2
    go_ret
    exact ⟨by rw [cut62_min]; rfl, hb3⟩
set_option maxHeartbeats 1000000 in
set_option maxRecDepth 100000 in
theorem rLength_any (a b : Int) (w : World) (ha : in64 a) (hb : in64 b) : Calls Try.prog 25 #[.agg #[.int .i64 a, .int .i64 b]] w fun e w' => e = .returned (.int .i64 (cut62 (lenS (a, b)))) ∧ Below w.heap.size w w' := by
  have hb1 := (Below.refl w.heap.size w).alloc (Nat.le_refl _) (.cells #[.int .i64 a, .int .i64 b] 39)
  by_cases h : b ≤ a
  · rw [show cut62 (lenS (a, b)) = 0 by simp [lenS, h, cut62]]
    go_enter Try.func25, Try.ntmps25
    go_wp2
    go_ret
    exact ⟨rfl, hb1⟩
  · have hl : lenS (a, b) = b - a := by simp only [lenS]; rw [if_neg h]
    have hw := u64_sub ha hb (by omega)
    rw [hl]
    unfold in64 at ha hb
    by_cases h2 : b - a ≤ 4611686018427387904
    · have hc : cut62 (b - a) = b - a := by unfold cut62; rw [if_pos h2]
      have h3 : ¬ 4611686018427387904 < b - a := by omega
      rw [hc]
      go_enter Try.func25, Try.ntmps25
      go_wp2
      go_ret
      exact ⟨rfl, hb1⟩
    · have hc : cut62 (b - a) = 4611686018427387904 := by unfold cut62; rw [if_neg h2]
      have h3 : 4611686018427387904 < b - a := by omega
      rw [hc]
      go_enter Try.func25, Try.ntmps25
      go_wp2
      go_ret
      exact ⟨rfl, hb1⟩

end Go.Proofs.Ytefcadngdcgpiaa
