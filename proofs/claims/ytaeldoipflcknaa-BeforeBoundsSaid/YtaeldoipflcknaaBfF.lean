/-
  What is proved: the contract of before's room. Conditions: as it says.
-/
import Derived.Test.YtaeldoipflcknaaBfE
namespace Go.Proofs.Ytaeldoipflcknaa
open Go Go.RowKit Go.Lib Go.Proofs
open Ra (fitsB fitsB_iff)
set_option linter.unusedVariables false

/-- How much of a code may still be taken, by its limit. -/
def roomF (g left so nt : Int) (l : Lm) : Int := if l.2.2 ≠ 0 then min (min left (partP g l.2.1 - (nt - so))) (max (l.2.2 - nt) 0) else min left (partP g l.2.1 - (nt - so))
set_option maxHeartbeats 4000000 in
set_option maxRecDepth 100000 in
theorem room_any (g left : Int) (p : Option Nat) (b bl : Nat) (was N : Ti) (L : List Lm) (s : ByteArray) (w : World) (hs : s.size ≤ maxLen) (hw : SMo w p (vT was)) (hN : SM w b (vT N)) (hL : SM w bl (lmT L)) (hc : (chkF L).1 = 0)
    (g0 : 0 ≤ g) (g1 : g ≤ 1125899906842624) (l0 : 0 ≤ left) (l1 : left ≤ g) (so0 : 0 ≤ atI was s) (so1 : atI was s ≤ 1125899906842624) (nt0 : atI was s ≤ atI N s) (nt1 : atI N s ≤ 1125899906842624) :
    Calls Try.prog 27 #[.agg #[.int .i64 g, .int .i64 left, .map p, .map (some b), .map (some bl)], .string s] w fun e w' => (∃ v, e = .returned (.int .i64 v) ∧ ((hasL L s = false → v = left) ∧ ∀ l ∈ L, l.1 = s → v = roomF g left (atI was s) (atI N s) l)) ∧ Below w.heap.size w w' := by
  obtain ⟨W1, hW1⟩ : ∃ W1, W1 = w.alloc (.cells #[.int .i64 g, .int .i64 left, .map p, .map (some b), .map (some bl)] 66) := ⟨_, rfl⟩
  have hb1 : Below w.heap.size w W1 := by rw [hW1]; exact (Below.refl w.heap.size w).alloc (Nat.le_refl _) _
  have hz1 : Hid (W1.heap.size = w.heap.size + 1) := Lib.hid (by rw [hW1]; simp)
  have hc1 : ∀ j, W1.cell? ⟨w.heap.size, j, none⟩ = #[Value.int .i64 g, .int .i64 left, .map p, .map (some b), .map (some bl)][j]? := fun j => by rw [hW1]; exact World.cell?_alloc_new _ _ _ _
  have hk : ∀ V (Z : Value), Below w.heap.size w V → ((Instr.lookup 62 (.map (some bl)) (.string s) true).run Try.prog V = .ok (.tuple #[lkT (lmT L) s (lmV dL), .bool (hasL L s)]) V ∧
      (Instr.lookup 30 (.map (some b)) (.string s) false).run Try.prog V = .ok (.int .i64 (atI N s)) V ∧ (Instr.lookup 30 (.map p) (.string s) false).run Try.prog V = .ok (.int .i64 (atI was s)) V) := fun V Z hV => by
    refine ⟨?_, ?_, ?_⟩
    · have := (hL.below hV).look_ok Try.underlying62 (zLm V) hs
      rwa [lmT_has] at this
    · have := (hN.below hV).look Try.underlying30 (zCt V) hs
      rwa [vT_lk] at this
    · have := (hw.below hV).look Try.underlying30 (zCt V) hs
      rwa [vT_lk] at this
  replace hk := Lib.hid hk
  cases hl : hasL L s
  · have hnone : ∀ l ∈ L, l.1 = s → False := fun l hm e => by
      rw [Bool.eq_false_iff] at hl
      exact hl (List.any_eq_true.2 ⟨l, hm, by simpa using e⟩)
    obtain ⟨l9, hl9⟩ := lk_shape (L := L) s
    obtain ⟨q0, q1, q2⟩ := l9
    have k1 := (hk.out W1 (.int .i64 0) hb1).1
    rw [hl9, hl] at k1
    have c0 := hc1 0
    have c1 := hc1 1
    have c2 := hc1 2
    have c3 := hc1 3
    have c4 := hc1 4
    have hbl := Lib.hid hnone
    have hsz : w.heap.size < W1.heap.size := by have := hz1.out; omega
    have k2 : (Instr.lookup 62 (.map (some bl)) (.string s) true).run Try.prog W1 = .ok (.tuple #[.agg #[.string q0, .int .i64 q1, .int .i64 q2], .bool false]) W1 := k1
    clear hc1 hk hw hN hL hl hl9 hnone k1
    go_enter Try.func27, Try.ntmps27
    go_upto_region 1 with fail
    rw [← hW1]
    clear hW1
    go_wp2
    go_ret
    exact ⟨⟨_, rfl, fun _ => rfl, fun l hm e => absurd e (fun e => hbl.out l hm e)⟩, hb1.alloc hb1.size _⟩
  · obtain ⟨l, hm, e, hok, hlk, hcap, huq⟩ := cap_one hc hl
    subst e
    obtain ⟨s, m, y⟩ := l
    dsimp only at *
    simp only [okLm, Bool.and_eq_true] at hok
    obtain ⟨hm1, hy1⟩ := hok
    obtain ⟨m0, m1⟩ := partB_iff.1 hm1
    obtain ⟨y0, y1⟩ := fit0_iff.1 hy1
    have hp := of_part g0 g1 hm1
    have hpb := partP_bd g0 g1 hm1
    have HO := Lib.hid (fun W => Ra.of_any g m 1 W)
    rw [hp] at HO
    have hres : Hid (∀ l ∈ L, l.1 = s → roomF g left (atI was s) (atI N s) (s, m, y) = roomF g left (atI was s) (atI N s) l) := Lib.hid (fun l hl e => by rw [huq l hl e])
    have hkk := fun V hV => (hk.out V (.int .i64 0) hV)
    rw [hlk] at hkk
    replace hkk := Lib.hid hkk
    have c0 := hc1 0
    have c1 := hc1 1
    have c2 := hc1 2
    have c3 := hc1 3
    have c4 := hc1 4
    obtain ⟨W2, hW2⟩ : ∃ W2, W2 = W1.alloc (.cells #[.string s, .int .i64 m, .int .i64 y] 47) := ⟨_, rfl⟩
    have hb2 : Below W1.heap.size W1 W2 := by rw [hW2]; exact (Below.refl _ _).alloc (Nat.le_refl _) _
    have HB2 := Lib.hid (hb1.trans (hb2.mono hb1.size))
    have e1 : W2.cell? ⟨W1.heap.size, 1, none⟩ = some (.int .i64 m) := by rw [hW2, World.cell?_alloc_new]; rfl
    have e2 : W2.cell? ⟨W1.heap.size, 2, none⟩ = some (.int .i64 y) := by rw [hW2, World.cell?_alloc_new]; rfl
    have hlt1 : w.heap.size < W1.heap.size := by have := hz1.out; omega
    have d0 := (hb2.cell (p := ⟨w.heap.size, 0, none⟩) hlt1).trans c0
    have d1 := (hb2.cell (p := ⟨w.heap.size, 1, none⟩) hlt1).trans c1
    have d2 := (hb2.cell (p := ⟨w.heap.size, 2, none⟩) hlt1).trans c2
    have d3 := (hb2.cell (p := ⟨w.heap.size, 3, none⟩) hlt1).trans c3
    obtain ⟨k1, -, -⟩ := hkk.out W1 hb1
    generalize hso : atI was s = so at *
    generalize hnt : atI N s = nt at *
    have KE : Hid (∀ P, P = partP g m → roomF g left so nt (s, m, y) = if y ≠ 0 then min (min left (P - (nt - so))) (max (y - nt) 0) else min left (P - (nt - so))) := Lib.hid (fun P hP => by rw [hP]; rfl)
    generalize hP : partP g m = P at *
    have HLT := Lib.hid (fun a b W => least_any a b W)
    have HGT := Lib.hid (fun a b W => great_any a b W)
    have k2 : (Instr.lookup 62 (.map (some bl)) (.string s) true).run Try.prog W1 = .ok (.tuple #[.agg #[.string s, .int .i64 m, .int .i64 y], .bool true]) W1 := by rw [hl] at k1; exact k1
    clear hc1 hk hw hN hL hcap huq hlk k1 hp hso hnt hl hP hm
    go_enter Try.func27, Try.ntmps27
    go_upto_region 1 with fail
    rw [← hW1]
    clear hW1
    go_upto_region 2 with fail
    rw [← hW2]
    clear hW2 c0 c1 c2 c3 c4 hlt1 k2
    go_wp2_with fail
    refine (HO.out _).mono ?_
    rintro e w3 ⟨rfl, hb3⟩
    have e1' := (hb3.cell (p := ⟨W1.heap.size, 1, none⟩) (World.block_lt_of_cell? _ _ e1)).trans e1
    have e2' := (hb3.cell (p := ⟨W1.heap.size, 2, none⟩) (World.block_lt_of_cell? _ _ e2)).trans e2
    have d0' := (hb3.cell (p := ⟨w.heap.size, 0, none⟩) (World.block_lt_of_cell? _ _ d0)).trans d0
    have d1' := (hb3.cell (p := ⟨w.heap.size, 1, none⟩) (World.block_lt_of_cell? _ _ d1)).trans d1
    have d2' := (hb3.cell (p := ⟨w.heap.size, 2, none⟩) (World.block_lt_of_cell? _ _ d2)).trans d2
    have d3' := (hb3.cell (p := ⟨w.heap.size, 3, none⟩) (World.block_lt_of_cell? _ _ d3)).trans d3
    have hbw := HB2.out.trans (hb3.mono HB2.out.size)
    obtain ⟨-, k3, k4⟩ := hkk.out w3 hbw
    have HBW := Lib.hid hbw
    clear hb1 hb2 HB2 hb3 e1 e2 d0 d1 d2 d3 hbw hkk
    generalize W1.heap.size = b1 at *
    go_wp2_with fail
    refine (HLT.out _ _ _).mono ?_
    rintro e w4 ⟨rfl, rfl⟩
    by_cases hy : y = 0
    · subst hy
      have KV := Lib.hid (KE.out P rfl)
      rw [if_neg (by simp)] at KV
      clear KE
      go_wp2
      go_ret
      exact ⟨⟨_, rfl, fun h => (by simp at h), fun l hl e => (by rw [← hres.out l hl e, KV.out])⟩, HBW.out⟩
    · have KV := Lib.hid (KE.out P rfl)
      rw [if_pos hy] at KV
      have dy : (y != 0) = true := by simpa using hy
      clear KE
      go_wp2_with fail
      refine (HGT.out _ _ _).mono ?_
      rintro e w4 ⟨rfl, rfl⟩
      go_wp2_with fail
      refine (HLT.out _ _ _).mono ?_
      rintro e w4 ⟨rfl, rfl⟩
      go_wp2
      go_ret
      exact ⟨⟨_, rfl, fun h => (by simp at h), fun l hl e => (by rw [← hres.out l hl e, KV.out]; omega)⟩, HBW.out⟩

end Go.Proofs.Ytaeldoipflcknaa
