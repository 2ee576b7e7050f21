/-
  What is proved: the contracts of On of a pattern, and of the closures that add a day's minutes, and count it. Conditions: the free days lie in memory as the contract says.
-/
import Derived.Test.YtbgilplaefdhbaaDoorDkD
import Derived.Test.YtbgilplaefdhbaaDoorBsDay
namespace Go.Proofs.YtbgilplaefdhbaaDoor
open Go Go.RowKit Go.Proofs

set_option maxHeartbeats 1000000 in
theorem bs0 (p : Option Addr) (c : Nat) (x : Int) (w : World) : Calls Tryd.prog 26 #[.slice p 0 c, .int .i64 x] w fun e w' => e = .returned (.tuple #[.int .i64 0, .bool false]) ∧ ∃ n, w' = w.drewN n := by
  go_enter Tryd.func26, Tryd.ntmps26
  go_wp2
  go_loop [7, 8] (fun a b => a = .int .i64 0 ∧ b = .int .i64 0) (fun _ _ => 0)
  case atStart => exact ⟨rfl, rfl⟩
  case round =>
    obtain ⟨rfl, rfl⟩ := hrel
    go_wp2
    go_ret2
    exact ⟨rfl, 0, rfl⟩
/-- slices.BinarySearch of free days that rise: is the day one of them? -/
theorem bs_any (p : Option Addr) (c : Nat) (F : List Int) (x : Int) (w : World) (hn : F.length ≤ 4096) (h : DaysIn w p F) (hs : F.Pairwise (· ≤ ·)) :
    Calls Tryd.prog 26 #[.slice p F.length c, .int .i64 x] w fun e w' => (∃ i : Int, e = .returned (.tuple #[.int .i64 i, .bool (F.contains x)])) ∧ ∃ n, w' = w.drewN n := by
  rcases h with rfl | ⟨b, o, rfl, hc⟩
  · exact (bs0 p c x w).mono fun _ _ ⟨he, hw⟩ => ⟨⟨0, he⟩, hw⟩
  · have hcon := AnyG.slices_BinarySearch_int Tryd.laysSearch b o F.length c F x w (Nat.le_refl _) (by omega) hc (by rw [List.take_length]; exact hs)
    change Calls Tryd.prog 26 _ _ _ at hcon
    rw [List.take_length] at hcon
    exact hcon.mono fun _ _ ⟨he, hw⟩ => ⟨⟨_, he⟩, hw⟩

theorem box8 (q : Nat → Int) (v : Value) (w : World) (t : TypeId) : (∀ k, k < 7 → (w.alloc (.cells #[.int .i64 (q 0), .int .i64 (q 1), .int .i64 (q 2), .int .i64 (q 3), .int .i64 (q 4), .int .i64 (q 5), .int .i64 (q 6), v] t)).cell? ⟨w.heap.size, k, none⟩ = some (.int .i64 (q k))) ∧ (w.alloc (.cells #[.int .i64 (q 0), .int .i64 (q 1), .int .i64 (q 2), .int .i64 (q 3), .int .i64 (q 4), .int .i64 (q 5), .int .i64 (q 6), v] t)).cell? ⟨w.heap.size, 7, none⟩ = some v := by
  refine ⟨fun k hk => ?_, by rw [World.cell?_alloc_new]; rfl⟩
  rw [World.cell?_alloc_new]
  have e : k = 0 ∨ k = 1 ∨ k = 2 ∨ k = 3 ∨ k = 4 ∨ k = 5 ∨ k = 6 := by omega
  rcases e with rfl | rfl | rfl | rfl | rfl | rfl | rfl <;> rfl

theorem seven {q : Nat → Int} {g : Nat} {w : World} (h : ∀ k, k < 7 → w.cell? ⟨g, k, none⟩ = some (.int .i64 (q k))) : w.cell? ⟨g, 0, none⟩ = some (.int .i64 (q 0)) ∧ w.cell? ⟨g, 1, none⟩ = some (.int .i64 (q 1)) ∧ w.cell? ⟨g, 2, none⟩ = some (.int .i64 (q 2)) ∧ w.cell? ⟨g, 3, none⟩ = some (.int .i64 (q 3)) ∧ w.cell? ⟨g, 4, none⟩ = some (.int .i64 (q 4)) ∧ w.cell? ⟨g, 5, none⟩ = some (.int .i64 (q 5)) ∧ w.cell? ⟨g, 6, none⟩ = some (.int .i64 (q 6)) :=
  ⟨h 0 (by omega), h 1 (by omega), h 2 (by omega), h 3 (by omega), h 4 (by omega), h 5 (by omega), h 6 (by omega)⟩

set_option maxHeartbeats 2000000 in
set_option maxRecDepth 100000 in
theorem On_any (q : Nat → Int) (F : List Int) (d : Int) (p : Option Addr) (c : Nat) (w : World) (h : DaysIn w p F) :
    Calls Tryd.prog 16 #[.agg #[.int .i64 (q 0), .int .i64 (q 1), .int .i64 (q 2), .int .i64 (q 3), .int .i64 (q 4), .int .i64 (q 5), .int .i64 (q 6), .slice p F.length c], .int .i64 d] w fun e w' => e = .returned (.int .i64 (onV q F d)) ∧ Below w.heap.size w w' := by
  have HC := Check_any q F p c
  have hl : F.length ≤ 4096 ∨ chk q F ≠ 0 := by
    by_cases hq : chk q F = 0
    · exact .inl (chk_parts hq).2.1
    · exact .inr hq
  obtain ⟨n, hnl⟩ : ∃ n, n = F.length := ⟨_, rfl⟩
  obtain ⟨R, hR⟩ : ∃ R, R = onV q F d := ⟨_, rfl⟩
  obtain ⟨W1, hW1⟩ : ∃ W1, W1 = w.alloc (.cells #[.int .i64 (q 0), .int .i64 (q 1), .int .i64 (q 2), .int .i64 (q 3), .int .i64 (q 4), .int .i64 (q 5), .int .i64 (q 6), .slice p n c] 41) := ⟨_, rfl⟩
  have hb0 : Below w.heap.size w W1 := by rw [hW1]; exact (Below.refl w.heap.size w).alloc (Nat.le_refl _) _
  have hg : w.heap.size < W1.heap.size := by rw [hW1]; simp
  have hD := h.below hb0 (Nat.le_refl _)
  cases hin : inB d with
  | false =>
    have HW := Lib.hid (wk_no d hin)
    have HR : Hid (R = 0) := Lib.hid (by rw [hR]; exact onV_out hin)
    rw [← hnl, ← hR]
    clear hnl hR hin h hD HC hl
    go_enter Tryd.func16, Tryd.ntmps16
    go_wp2_with fail
    rw [← hW1]
    clear hW1
    refine (HW.out _).mono ?_
    rintro e w' ⟨rfl, rfl⟩
    go_wp2
    go_ret
    exact ⟨by rw [HR.out]; rfl, hb0⟩
  | true =>
    obtain ⟨m, m7, hm, HW⟩ := wk_at d hin W1
    have HW := Lib.hid HW
    have m0 : ¬ (m : Int) < 0 := by omega
    have HK := HC W1 hD
    have x8 := box8 q (.slice p n c) w 41
    rw [← hW1] at x8
    obtain ⟨z0, z1, z2, z3, z4, z5, z6⟩ := seven x8.1
    have x7 := x8.2
    by_cases hq : chk q F = 0
    · rw [hq] at HK
      rw [← hnl] at HK hl
      have HK := Lib.hid HK
      have hn4 : n ≤ 4096 := by rcases hl with h | h; exact h; exact absurd hq h
      have xm := x8.1 m m7
      have HBS : Hid (∀ W, DaysIn W p F → Calls Tryd.prog 26 #[.slice p n c, .int .i64 d] W fun e w' => (∃ i : Int, e = .returned (.tuple #[.int .i64 i, .bool (F.contains d)])) ∧ ∃ n, w' = W.drewN n) := Lib.hid (fun W hW => by
        have := bs_any p c F d W (by rw [← hnl]; exact hn4) hW (sorted_of (chk_parts hq).2.2)
        rwa [← hnl] at this)
      have hD := Lib.hid hD
      cases hf : F.contains d with
      | true =>
        have HR : Hid (R = 0) := Lib.hid (by rw [hR]; exact onV_free (by simpa using hf))
        rw [hf] at HBS
        rw [← hnl, ← hR]
        clear hnl hR hin h HC hl hf hq x8 hm
        go_enter Tryd.func16, Tryd.ntmps16
        go_wp2_with fail
        rw [← hW1]
        clear hW1
        refine (HW.out).mono ?_
        rintro e w' ⟨rfl, rfl⟩
        go_wp2_with fail
        refine (HK.out).mono ?_
        rintro e w2 ⟨rfl, hb2⟩
        have y7 := (bcell hb2 _ 7 hg).trans x7
        have ym := (bcell hb2 _ m hg).trans xm
        have hD2 := hD.out.below hb2 (Nat.le_refl _)
        have HB2 := Lib.hid (HBS.out w2 hD2)
        have hb3 := hb0.trans (hb2.mono hb0.size)
        clear hD2 HBS hD hb2 hb0 HK HW xm x7 z0 z1 z2 z3 z4 z5 z6
        go_wp2_with fail
        refine (HB2.out).mono ?_
        rintro e w3 ⟨⟨i, rfl⟩, nq, rfl⟩
        go_wp2
        go_ret
        exact ⟨by rw [HR.out]; rfl, below_drewN hb3 _⟩
      | false =>
        have HR : Hid (R = q m) := Lib.hid (by rw [hR, onV_yes hq hin (by simpa using hf)]; unfold wkM; rw [hm]; rfl)
        rw [hf] at HBS
        rw [← hnl, ← hR]
        clear hnl hR hin h HC hl hf hq x8 hm
        generalize q m = y at xm HR
        go_enter Tryd.func16, Tryd.ntmps16
        go_wp2_with fail
        rw [← hW1]
        clear hW1
        refine (HW.out).mono ?_
        rintro e w' ⟨rfl, rfl⟩
        go_wp2_with fail
        refine (HK.out).mono ?_
        rintro e w2 ⟨rfl, hb2⟩
        have y7 := (bcell hb2 _ 7 hg).trans x7
        have ym := (bcell hb2 _ m hg).trans xm
        have hD2 := hD.out.below hb2 (Nat.le_refl _)
        have HB2 := Lib.hid (HBS.out w2 hD2)
        have hb3 := hb0.trans (hb2.mono hb0.size)
        have hmI : (m : Int) < 7 := by omega
        clear hD2 HBS hD hb2 hb0 HK HW xm x7 z0 z1 z2 z3 z4 z5 z6
        go_wp2_with fail
        refine (HB2.out).mono ?_
        rintro e w3 ⟨⟨i, rfl⟩, nq, rfl⟩
        go_wp2
        go_ret
        exact ⟨by rw [HR.out]; rfl, below_drewN hb3 _⟩
    · have HR : Hid (R = 0) := Lib.hid (by rw [hR]; exact onV_bad hq d)
      rw [← hnl] at HK
      have e1 : (chk q F != 0) = true := by simpa using hq
      generalize chk q F = K at *
      have HK := Lib.hid HK
      rw [← hnl, ← hR]
      clear hnl hR hin h hD HC hl hq hm x8
      go_enter Tryd.func16, Tryd.ntmps16
      go_wp2_with fail
      rw [← hW1]
      clear hW1
      refine (HW.out).mono ?_
      rintro e w' ⟨rfl, rfl⟩
      go_wp2_with fail
      refine (HK.out).mono ?_
      rintro e w2 ⟨rfl, hb2⟩
      have hb3 := hb0.trans (hb2.mono hb0.size)
      go_wp2
      go_ret
      exact ⟨by rw [HR.out]; rfl, hb3⟩

end Go.Proofs.YtbgilplaefdhbaaDoor
