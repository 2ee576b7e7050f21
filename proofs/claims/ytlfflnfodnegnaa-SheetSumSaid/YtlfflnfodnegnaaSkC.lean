/-
  What is proved: the contract of putting a day to its week. Conditions: a right entry, right limits, a map of at most 10^6 entries of small sums.
-/
import Derived.Test.YtlfflnfodnegnaaSkB
namespace Go.Proofs.Ytlfflnfodnegnaa
open Go Go.RowKit Go.Proofs
set_option linter.unusedVariables false

theorem wf64 {m : Int} (h1 : -1000000000000000 ≤ m) (h2 : m ≤ 1000000000000000) : (Lit.int .i64 m).wf = true := by
  simp [Lit.wf, IntKind.min, IntKind.max, IntKind.signed, IntKind.bits]; omega
theorem set3_grown {w w' : World} {row : Option Nat} {r : Nat} {a b c : Value} (h : w.grownBy w' row) (hr : w.heap.size ≤ r) : w.grownBy (((w'.setCell ⟨r, 0, none⟩ a).setCell ⟨r, 1, none⟩ b).setCell ⟨r, 2, none⟩ c) row :=
  ⟨h.os, h.tape, h.output, by simpa using h.size, fun k hk hne => by
    rw [Below.heap_setCell _ _ _ _ (by show k ≠ r; omega), Below.heap_setCell _ _ _ _ (by show k ≠ r; omega), Below.heap_setCell _ _ _ _ (by show k ≠ r; omega)]
    exact h.block k hk hne⟩
/-- A right entry. -/
def RtE (e : En) : Prop := inB e.1 = true ∧ 0 ≤ e.2.1 ∧ e.2.1 ≤ 1440 ∧ 0 ≤ e.2.2 ∧ e.2.2 ≤ e.2.1
set_option maxHeartbeats 2000000 in
set_option maxRecDepth 100000 in
theorem put_any (D W : Int) (e : En) (b n : Nat) (S : St) (ks : List Int) (w : World) (hL : Lim D W) (he : RtE e) (hA : 0 ≤ (S (mon e.1)).1 ∧ (S (mon e.1)).1 ≤ 1000000000000) (hH : Sm (S (mon e.1)).2) (hn : n < 1000000) (h : MapIs w b n S ks) :
    Calls Try.prog 18 #[.agg #[.int .i64 D, .int .i64 W], .agg #[.int .i64 e.1, .int .i64 e.2.1, .int .i64 e.2.2], .map (some b)] w fun r w' => r = .returned (.agg #[.int .i64 (hrs D W (S (mon e.1)).1 e).1, .int .i64 (hrs D W (S (mon e.1)).1 e).2.1, .int .i64 (hrs D W (S (mon e.1)).1 e).2.2]) ∧ MapIs w' b (n + 1) (put D W S e) (mon e.1 :: ks) ∧ w.grownBy w' (some b) := by
  obtain ⟨d, mi, ni⟩ := e
  obtain ⟨hd, m0, m1, n0, n1⟩ := he
  simp only at *
  obtain ⟨M, hM⟩ : ∃ M, M = mon d := ⟨_, rfl⟩
  have hMb := mon_bd hd
  have HW := fun V => weekOf_any d hd V
  rw [← hM] at HW hMb hA hH ⊢
  have hMw := wf64 (m := M) (by omega) (by omega)
  obtain ⟨A, p, o, q, hS⟩ : ∃ A p o q, S M = (A, p, o, q) := ⟨_, _, _, _, rfl⟩
  rw [hS] at hA hH ⊢
  simp only at *
  obtain ⟨l, hl⟩ : ∃ l, l = lft D (d, mi, ni) := ⟨_, rfl⟩
  obtain ⟨s, hs⟩ : ∃ s, s = psg D W A (d, mi, ni) := ⟨_, rfl⟩
  obtain ⟨l0, l1, l2⟩ := lft_bd (D := D) (e := (d, mi, ni)) hL.1 m0
  obtain ⟨s0, s1⟩ := psg_bd (D := D) (W := W) (A := A) (e := (d, mi, ni)) l0
  rw [← hl] at l0 l1 l2 s1
  rw [← hs] at s0 s1
  have el : min mi D = l := hl.symm
  have es : min l (max 0 (A + l - W)) = s := by rw [hs, hl]; rfl
  have eH : hrs D W A (d, mi, ni) = (l - s, mi - l + s, ni) := by unfold hrs; rw [← hl, ← hs]
  have eP : put D W S (d, mi, ni) = fun k => if k = M then (A + l, addH (p, o, q) (l - s, mi - l + s, ni)) else S k := by
    funext k
    unfold put
    simp only [← hM]
    split
    · rename_i hk; rw [hk, hS, ← hl, eH]
    · rfl
  obtain ⟨a1, a2, a3, ha⟩ : ∃ a1 a2 a3, addH (p, o, q) (l - s, mi - l + s, ni) = (a1, a2, a3) := ⟨_, _, _, rfl⟩
  have hWi := fun V => with_any (p, o, q) (l - s, mi - l + s, ni) hH ⟨by simp only; omega, by simp only; omega, by simp only; omega⟩ V
  rw [ha] at hWi eP
  replace hWi := Lib.hid hWi
  obtain ⟨L1, L2, L3, L4⟩ := hL
  obtain ⟨⟨H1, H2⟩, ⟨H3, H4⟩, H5, H6⟩ := hH
  simp only at H1 H2 H3 H4 H5 H6 l1
  obtain ⟨A0, A1⟩ := hA
  rw [eH, eP]
  replace HW := Lib.hid HW
  have HST := Lib.hid (fun V (hv : MapIs V b n S ks) => hv.store hn hMw (A + l, a1, a2, a3))
  have HLK := Lib.hid (fun V (hv : MapIs V b n S ks) => by have := hv.look hMw; rwa [hS] at this)
  obtain ⟨W3, hW3⟩ : ∃ W3, W3 = ((w.alloc (.cells #[.int .i64 D, .int .i64 W] 24)).alloc (.cells #[.int .i64 d, .int .i64 mi, .int .i64 ni] 46)).alloc (.cells #[.int .i64 0, .int .i64 0, .int .i64 0] 30) := ⟨_, rfl⟩
  clear hs hl eP eH hM hS ha
  go_enter Try.func18, Try.ntmps18
  go_wp2_with fail
  rw [← hW3]
  have hz3 : W3.heap.size = w.heap.size + 1 + 1 + 1 := by rw [hW3]; simp
  have hb0 : Below w.heap.size w W3 := by rw [hW3]; exact (((Below.refl w.heap.size w).alloc (Nat.le_refl _) _).alloc (by simp) _).alloc (by simp; omega) _
  have hc : (∀ j, W3.cell? ⟨w.heap.size, j, none⟩ = #[Value.int .i64 D, .int .i64 W][j]?) ∧ (∀ j, W3.cell? ⟨w.heap.size + 1, j, none⟩ = #[Value.int .i64 d, .int .i64 mi, .int .i64 ni][j]?) ∧ (∀ j, W3.cell? ⟨w.heap.size + 1 + 1, j, none⟩ = #[Value.int .i64 0, .int .i64 0, .int .i64 0][j]?) ∧ ∀ j, W3.frozen? ⟨w.heap.size + 1 + 1, j, none⟩ = false := by
    obtain ⟨Wa, hWa⟩ : ∃ Wa, Wa = w.alloc (.cells #[.int .i64 D, .int .i64 W] 24) := ⟨_, rfl⟩
    obtain ⟨Wb, hWb⟩ : ∃ Wb, Wb = Wa.alloc (.cells #[.int .i64 d, .int .i64 mi, .int .i64 ni] 46) := ⟨_, rfl⟩
    have za : Wa.heap.size = w.heap.size + 1 := by rw [hWa]; simp
    have zb : Wb.heap.size = w.heap.size + 1 + 1 := by rw [hWb, World.size_alloc, za]
    rw [hW3, ← hWa, ← hWb]
    refine ⟨fun j => ?_, fun j => ?_, fun j => ?_, fun j => ?_⟩
    · rw [World.cell?_alloc_lt _ _ _ (by show w.heap.size < _; omega), hWb, World.cell?_alloc_lt _ _ _ (by show w.heap.size < _; omega), hWa, new_at]
    · rw [World.cell?_alloc_lt _ _ _ (by show w.heap.size + 1 < _; omega), hWb, ← za, new_at]
    · rw [← zb, new_at]
    · rw [← zb, new_unfrozen]
  obtain ⟨c1, c2, c3, f3⟩ := hc
  clear hW3
  refine (HW.out _).mono ?_
  rintro e w2 ⟨rfl, hb2⟩
  have hz2 := hb2.size
  have hb4 := hb0.trans (hb2.mono (by omega))
  have y0 : w2.cell? ⟨w.heap.size, 0, none⟩ = some (.int .i64 (D)) := stay hb2 (c1 0)
  have y1 : w2.cell? ⟨w.heap.size, 1, none⟩ = some (.int .i64 (W)) := stay hb2 (c1 1)
  have y2 : w2.cell? ⟨w.heap.size + 1, 0, none⟩ = some (.int .i64 (d)) := stay hb2 (c2 0)
  have y3 : w2.cell? ⟨w.heap.size + 1, 1, none⟩ = some (.int .i64 (mi)) := stay hb2 (c2 1)
  have y4 : w2.cell? ⟨w.heap.size + 1, 2, none⟩ = some (.int .i64 (ni)) := stay hb2 (c2 2)
  have y5 : w2.cell? ⟨w.heap.size + 1 + 1, 0, none⟩ = some (.int .i64 (0)) := stay hb2 (c3 0)
  have y6 : w2.cell? ⟨w.heap.size + 1 + 1, 1, none⟩ = some (.int .i64 (0)) := stay hb2 (c3 1)
  have y7 : w2.cell? ⟨w.heap.size + 1 + 1, 2, none⟩ = some (.int .i64 (0)) := stay hb2 (c3 2)
  have g5 := (hb2.frozen (p := ⟨w.heap.size + 1 + 1, 0, none⟩) (by show w.heap.size + 1 + 1 < _; omega)).trans (f3 0)
  have g6 := (hb2.frozen (p := ⟨w.heap.size + 1 + 1, 1, none⟩) (by show w.heap.size + 1 + 1 < _; omega)).trans (f3 1)
  have g7 := (hb2.frozen (p := ⟨w.heap.size + 1 + 1, 2, none⟩) (by show w.heap.size + 1 + 1 < _; omega)).trans (f3 2)
  have hm2 := h.below hb4
  have hlt := h.lt
  have hm4 := hm2.block (Below.heap_alloc _ (.cells #[.int .i64 M] 59) b (by omega))
  have hlk : (Instr.lookup 53 (.map (some b)) (.agg #[.int .i64 M]) false).run Try.prog (w2.alloc (.cells #[.int .i64 M] 59)) = .ok (.agg #[.int .i64 A, .int .i64 p, .int .i64 o, .int .i64 q]) (w2.alloc (.cells #[.int .i64 M] 59)) := HLK.out _ hm4
  have k0 : w.heap.size < w2.heap.size := by omega
  have k1 : w.heap.size + 1 < w2.heap.size := by omega
  have k2 : w.heap.size + 1 + 1 < w2.heap.size := by omega
  clear hb0 hb2 c1 c2 c3 f3 HLK HW hz2 hz3
  go_wp2_with fail
  obtain ⟨g, hg⟩ : ∃ g, g = w2.heap.size := ⟨_, rfl⟩
  obtain ⟨W6, hW6⟩ : ∃ W6, W6 = ((w2.alloc (.cells #[.int .i64 M] 59)).alloc (.cells #[.int .i64 (A + l), .int .i64 p, .int .i64 o, .int .i64 q] 64)).alloc (.cells #[.int .i64 (l - s), .int .i64 (mi - l + s), .int .i64 ni] 30) := ⟨_, rfl⟩
  rw [← hW6, ← hg]
  have hz6 : W6.heap.size = g + 1 + 1 + 1 := by rw [hW6, hg]; simp
  have hb6 : Below g w2 W6 := by rw [hW6, hg]; exact (((Below.refl w2.heap.size w2).alloc (Nat.le_refl _) _).alloc (by simp) _).alloc (by simp; omega) _
  have hc : (W6.cell? ⟨g, 0, none⟩ = some (.int .i64 M)) ∧ (∀ j, W6.cell? ⟨g + 1, j, none⟩ = #[Value.int .i64 (A + l), .int .i64 p, .int .i64 o, .int .i64 q][j]?) ∧ (∀ j, W6.frozen? ⟨g + 1, j, none⟩ = false) ∧ (∀ j, W6.cell? ⟨g + 1 + 1, j, none⟩ = #[Value.int .i64 (l - s), .int .i64 (mi - l + s), .int .i64 ni][j]?) := by
    obtain ⟨Wa, hWa⟩ : ∃ Wa, Wa = w2.alloc (.cells #[.int .i64 M] 59) := ⟨_, rfl⟩
    obtain ⟨Wb, hWb⟩ : ∃ Wb, Wb = Wa.alloc (.cells #[.int .i64 (A + l), .int .i64 p, .int .i64 o, .int .i64 q] 64) := ⟨_, rfl⟩
    have za : Wa.heap.size = g + 1 := by rw [hWa, hg]; simp
    have zb : Wb.heap.size = g + 1 + 1 := by rw [hWb, World.size_alloc, za]
    rw [hW6, ← hWa, ← hWb]
    refine ⟨?_, fun j => ?_, fun j => ?_, fun j => ?_⟩
    · rw [World.cell?_alloc_lt _ _ _ (by show g < _; omega), hWb, World.cell?_alloc_lt _ _ _ (by show g < _; omega), hWa, hg, new_at]; rfl
    · rw [World.cell?_alloc_lt _ _ _ (by show g + 1 < _; omega), hWb, ← za, new_at]
    · rw [World.frozen?_alloc_old _ _ _ (by show g + 1 ≠ _; omega), hWb, ← za, new_unfrozen]
    · rw [← zb, new_at]
  obtain ⟨c0, c1, f1, c2⟩ := hc
  rw [← hg] at k0 k1 k2
  have hmb : b < g := by omega
  clear hW6 hg
  refine (hWi.out _).mono ?_
  rintro e w7 ⟨rfl, hb7⟩
  have hb8 : Below g w2 w7 := hb6.trans (hb7.mono (by omega))
  have sm : ∀ {x j v}, x < g → w2.cell? ⟨x, j, none⟩ = some v → w7.cell? ⟨x, j, none⟩ = some v := fun hx h => (hb8.cell (p := ⟨_, _, none⟩) hx).trans h
  have sf : ∀ {x j}, x < g → w2.frozen? ⟨x, j, none⟩ = false → w7.frozen? ⟨x, j, none⟩ = false := fun hx h => (hb8.frozen (p := ⟨_, _, none⟩) hx).trans h
  replace c0 := stay hb7 c0
  have s0' : w7.cell? ⟨g + 1, 0, none⟩ = some (.int .i64 (A + l)) := stay hb7 (c1 0)
  have s1' : w7.cell? ⟨g + 1, 1, none⟩ = some (.int .i64 p) := stay hb7 (c1 1)
  have s2' : w7.cell? ⟨g + 1, 2, none⟩ = some (.int .i64 o) := stay hb7 (c1 2)
  have s3' : w7.cell? ⟨g + 1, 3, none⟩ = some (.int .i64 q) := stay hb7 (c1 3)
  have q1 := (hb7.frozen (p := ⟨g + 1, 1, none⟩) (by show g + 1 < _; omega)).trans (f1 1)
  have q2 := (hb7.frozen (p := ⟨g + 1, 2, none⟩) (by show g + 1 < _; omega)).trans (f1 2)
  have q3 := (hb7.frozen (p := ⟨g + 1, 3, none⟩) (by show g + 1 < _; omega)).trans (f1 3)
  have h0' : w7.cell? ⟨g + 1 + 1, 0, none⟩ = some (.int .i64 (l - s)) := stay hb7 (c2 0)
  have h1' : w7.cell? ⟨g + 1 + 1, 1, none⟩ = some (.int .i64 (mi - l + s)) := stay hb7 (c2 1)
  have h2' : w7.cell? ⟨g + 1 + 1, 2, none⟩ = some (.int .i64 ni) := stay hb7 (c2 2)
  replace y5 := sm k2 y5
  replace y6 := sm k2 y6
  replace y7 := sm k2 y7
  replace g5 := sf k2 g5
  replace g6 := sf k2 g6
  replace g7 := sf k2 g7
  have hm7 : MapIs w7 b n S ks := hm2.block (hb8.block b hmb)
  have hbw : Below w.heap.size w w7 := hb4.trans (hb8.mono (by omega))
  clear c1 c2 f1 hb6 hb7 y0 y1 y2 y3 y4 hm2 hm4 hlk hb4 hb8 sm sf hWi el es
  obtain ⟨w8, hw8⟩ : ∃ w8, w8 = ((w7.setCell ⟨g + 1, 1, none⟩ (.int .i64 a1)).setCell ⟨g + 1, 2, none⟩ (.int .i64 a2)).setCell ⟨g + 1, 3, none⟩ (.int .i64 a3) := ⟨_, rfl⟩
  have hm8 : MapIs w8 b n S ks := hm7.block (by rw [hw8, Below.heap_setCell _ _ _ _ (by show b ≠ g + 1; omega), Below.heap_setCell _ _ _ _ (by show b ≠ g + 1; omega), Below.heap_setCell _ _ _ _ (by show b ≠ g + 1; omega)])
  have hb8 : Below w.heap.size w w8 := by rw [hw8]; exact ((hbw.setCell (by show w.heap.size ≤ g + 1; omega) _).setCell (by show w.heap.size ≤ g + 1; omega) _).setCell (by show w.heap.size ≤ g + 1; omega) _
  obtain ⟨w9, hrun, hm9, hg9⟩ := HST.out _ hm8
  have hrun' : (Instr.mapUpdate 53 (.map (some b)) (.agg #[.int .i64 M]) (.agg #[.int .i64 (A + l), .int .i64 a1, .int .i64 a2, .int .i64 a3])).run Try.prog w8 = .ok () w9 := hrun
  rw [hw8] at hrun'
  have z9 : ∀ {x j v}, x ≠ b → x ≠ g + 1 → w7.cell? ⟨x, j, none⟩ = some v → w9.cell? ⟨x, j, none⟩ = some v := fun {x j v} hx hy h => by
    have e1 : w8.cell? ⟨x, j, none⟩ = some v := by rw [hw8, set_far (.inl hy), set_far (.inl hy), set_far (.inl hy)]; exact h
    exact (World.cell?_of_block (w := w8) (hg9.block x (World.block_lt_of_cell? _ _ e1) (fun e => hx (by injection e)))).trans e1
  have z9f : ∀ {x j}, x ≠ b → x ≠ g + 1 → x < w7.heap.size → w7.frozen? ⟨x, j, none⟩ = false → w9.frozen? ⟨x, j, none⟩ = false := fun {x j} hx hy hl h => by
    have e1 : w8.frozen? ⟨x, j, none⟩ = false := by rw [hw8]; simp only [World.frozen?_setCell]; exact h
    have e2 : w8.heap.size = w7.heap.size := by rw [hw8]; simp
    exact (World.frozen?_of_block (w := w8) (hg9.block x (by omega) (fun e => hx (by injection e)))).trans e1
  have H0 := z9 (by omega) (by omega) h0'
  have H1' := z9 (by omega) (by omega) h1'
  have H2' := z9 (by omega) (by omega) h2'
  have lt5 : w.heap.size + 1 + 1 < w7.heap.size := World.block_lt_of_cell? _ _ y5
  have Y5 := z9 (by omega) (by omega) y5
  have Y6 := z9 (by omega) (by omega) y6
  have Y7 := z9 (by omega) (by omega) y7
  have G5 := z9f (by omega) (by omega) lt5 g5
  have G6 := z9f (by omega) (by omega) lt5 g6
  have G7 := z9f (by omega) (by omega) lt5 g7
  clear y5 y6 y7 g5 g6 g7 h0' h1' h2' z9 z9f
  have hg8 : w.grownBy w9 (some b) := World.grownBy.trans ⟨hb8.os, hb8.tape, hb8.output, hb8.size, fun k hk _ => hb8.block k hk⟩ hg9
  obtain ⟨t0, t1, t2⟩ := set3 (x := .int .i64 (l - s)) (y := .int .i64 (mi - l + s)) (z := .int .i64 ni) Y5 Y6 Y7
  have HF := Lib.hid (And.intro (hm9.block (w' := ((w9.setCell ⟨w.heap.size + 1 + 1, 0, none⟩ (.int .i64 (l - s))).setCell ⟨w.heap.size + 1 + 1, 1, none⟩ (.int .i64 (mi - l + s))).setCell ⟨w.heap.size + 1 + 1, 2, none⟩ (.int .i64 ni)) (by rw [Below.heap_setCell _ _ _ _ (by show b ≠ w.heap.size + 1 + 1; omega), Below.heap_setCell _ _ _ _ (by show b ≠ w.heap.size + 1 + 1; omega), Below.heap_setCell _ _ _ _ (by show b ≠ w.heap.size + 1 + 1; omega)])) (set3_grown (a := .int .i64 (l - s)) (b := .int .i64 (mi - l + s)) (c := .int .i64 ni) hg8 (r := w.heap.size + 1 + 1) (by omega)))
  clear hm9 hg8 hm8 hw8 hg9 hrun hb8 hbw hm7 h HST
  go_wp2
  exact bodyPost_ret (v := .agg #[.int .i64 (l - s), .int .i64 (mi - l + s), .int .i64 ni]) (by simp [results, Try.results18, go_sem, t0, t1, t2]) rfl ⟨rfl, HF.out⟩

end Go.Proofs.Ytlfflnfodnegnaa
