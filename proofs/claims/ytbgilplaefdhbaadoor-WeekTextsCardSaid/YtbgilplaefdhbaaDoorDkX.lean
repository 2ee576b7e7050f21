/-
  What is proved: the contract of week's Text. Conditions: the table of powers of ten reads as the library lays it.
-/
import Derived.Test.YtbgilplaefdhbaaDoorDkW
import Derived.Lib.AppendIntMem
import Derived.Laws.AppendOwn
namespace Go.Proofs.YtbgilplaefdhbaaDoor
open Go Go.RowKit Go.Lib Go.Proofs
set_option linter.unusedVariables false
set_option linter.unusedSimpArgs false

theorem wadd_at (g j : Nat) : (⟨g, 0, none⟩ : Addr).add j = ⟨g, j, none⟩ := by
  unfold Addr.add
  by_cases h : j = 0 <;> simp [h]
theorem info_of {P : Program} {t : TypeId} {z : Option Value} {s b : Nat} (h : (P.info? t).map (fun i => (i.zero, i.size, i.bytes)) = some (z, s, b)) : ∃ i, P.info? t = some i ∧ i.zero = z ∧ i.size = s ∧ i.bytes = b := by
  obtain ⟨i, hi, he⟩ := Option.map_eq_some_iff.1 h
  injection he with h1 h2
  injection h2 with h2 h3
  exact ⟨i, hi, h1, h2, h3⟩
/-- append of elements that were built for it. -/
theorem app_new {T E : TypeId} {z : Value} {s b : Nat} (hT : Tryd.prog.underlying T = some (.slice E)) (hI : (Tryd.prog.info? E).map (fun i => (i.zero, i.size, i.bytes)) = some (some z, s, b)) (hz : z.cells.size = s) (hs : 0 < s) (hb : b ≤ 64) (base : Nat) (ty : TypeId) (w : World) (v : Value) (n : Nat) (xs : List Value) (hown : w.ownsRow base E s v n xs)
    (m : Nat) (news : List Value) (hl : news.length = m * s) (h1 : ∀ u ∈ news, u.oneCell' = true) (hn : n + m ≤ 1000000) (hbase : base ≤ w.heap.size) :
    ∃ v' w', (Builtin.append_ #[T, T] ty #[v, .slice (some ⟨w.heap.size, 0, none⟩) m m]).run Tryd.prog (w.alloc (.cells news.toArray E)) = .ok v' w' ∧ w'.ownsRow base E s v' (n + m) (xs ++ news) ∧ (w.alloc (.cells news.toArray E)).grownBy w' v.ownBlock := by
  obtain ⟨i, hi, hz0, hz1, hz2⟩ := info_of hI
  have hm : (n + m) * b ≤ 1000000 * 64 := Nat.mul_le_mul hn hb
  obtain ⟨v', w', h1, h2, h3, _, h4⟩ := run_append_own_at (P := Tryd.prog) (w.alloc (.cells news.toArray E)) base T ty E i z s b hT hi hz0 hz1 hz2 hz hs v n xs (hown.alloc _) ⟨w.heap.size, 0, none⟩ m m news hl
    (fun j u hu => by rw [wadd_at, World.cell?_alloc_new]; simpa using hu)
    h1 (by unfold maxLen; omega) (by omega) (by simp; omega)
  exact ⟨v', w', h1, h2, h3⟩
theorem infoU8 : (Tryd.prog.info? 5).map (fun i => (i.zero, i.size, i.bytes)) = some (some (.int .u8 0), 1, 1) := by kernel_rfl
/-- A row of bytes of a call's own, as a text. -/
theorem text_own {w : World} {base : Nat} {v : Value} {n : Nat} {l : List UInt8} (h : w.ownsRow base 5 1 v n (Lib.byteCells l)) (hl : n = l.length) (hn : 0 < n) : (convert 35 9 v).run Tryd.prog w = .ok (.string ⟨l.toArray⟩) w := by
  obtain ⟨g, c, rfl, hg, hlt⟩ := h.form hn
  subst hl
  refine run_convert_bytes_back (P := Tryd.prog) w 35 9 5 ⟨g, 0, none⟩ c l Tryd.underlying35 Tryd.underlying5 Tryd.underlying9 (fun j hj => ?_)
  exact h.cells (g := g) rfl j _ (by unfold Lib.byteCells; rw [List.getElem?_map, List.getElem?_eq_getElem hj]; rfl)

theorem week_index (q : Nat → Int) (k : Nat) (hk : k < 7) (W : World) : (Instr.index 23 (.agg #[.int .i64 (q 0), .int .i64 (q 1), .int .i64 (q 2), .int .i64 (q 3), .int .i64 (q 4), .int .i64 (q 5), .int .i64 (q 6)]) (.int .i64 k)).run Tryd.prog W = .ok (.int .i64 (q k)) W := by
  have i0 : (Instr.index 23 (.agg #[.int .i64 (q 0), .int .i64 (q 1), .int .i64 (q 2), .int .i64 (q 3), .int .i64 (q 4), .int .i64 (q 5), .int .i64 (q 6)]) (.int .i64 0)).run Tryd.prog W = .ok (.int .i64 (q 0)) W := by kernel_rfl
  have i1 : (Instr.index 23 (.agg #[.int .i64 (q 0), .int .i64 (q 1), .int .i64 (q 2), .int .i64 (q 3), .int .i64 (q 4), .int .i64 (q 5), .int .i64 (q 6)]) (.int .i64 1)).run Tryd.prog W = .ok (.int .i64 (q 1)) W := by kernel_rfl
  have i2 : (Instr.index 23 (.agg #[.int .i64 (q 0), .int .i64 (q 1), .int .i64 (q 2), .int .i64 (q 3), .int .i64 (q 4), .int .i64 (q 5), .int .i64 (q 6)]) (.int .i64 2)).run Tryd.prog W = .ok (.int .i64 (q 2)) W := by kernel_rfl
  have i3 : (Instr.index 23 (.agg #[.int .i64 (q 0), .int .i64 (q 1), .int .i64 (q 2), .int .i64 (q 3), .int .i64 (q 4), .int .i64 (q 5), .int .i64 (q 6)]) (.int .i64 3)).run Tryd.prog W = .ok (.int .i64 (q 3)) W := by kernel_rfl
  have i4 : (Instr.index 23 (.agg #[.int .i64 (q 0), .int .i64 (q 1), .int .i64 (q 2), .int .i64 (q 3), .int .i64 (q 4), .int .i64 (q 5), .int .i64 (q 6)]) (.int .i64 4)).run Tryd.prog W = .ok (.int .i64 (q 4)) W := by kernel_rfl
  have i5 : (Instr.index 23 (.agg #[.int .i64 (q 0), .int .i64 (q 1), .int .i64 (q 2), .int .i64 (q 3), .int .i64 (q 4), .int .i64 (q 5), .int .i64 (q 6)]) (.int .i64 5)).run Tryd.prog W = .ok (.int .i64 (q 5)) W := by kernel_rfl
  have i6 : (Instr.index 23 (.agg #[.int .i64 (q 0), .int .i64 (q 1), .int .i64 (q 2), .int .i64 (q 3), .int .i64 (q 4), .int .i64 (q 5), .int .i64 (q 6)]) (.int .i64 6)).run Tryd.prog W = .ok (.int .i64 (q 6)) W := by kernel_rfl
  have : k = 0 ∨ k = 1 ∨ k = 2 ∨ k = 3 ∨ k = 4 ∨ k = 5 ∨ k = 6 := by omega
  rcases this with rfl | rfl | rfl | rfl | rfl | rfl | rfl
  · exact i0
  · exact i1
  · exact i2
  · exact i3
  · exact i4
  · exact i5
  · exact i6

/-- The table of powers of ten, from here on. -/
def Tab (w : World) : Prop := TabIs Tryd.prog w "internal/strconv.uint64pow10" .u64 pow10Tab

set_option maxHeartbeats 2000000 in
set_option maxRecDepth 100000 in
theorem Text_no (q : Nat → Int) (hq : chkW q ≠ 0) (w : World) : Calls Tryd.prog 5 #[.agg #[.int .i64 (q 0), .int .i64 (q 1), .int .i64 (q 2), .int .i64 (q 3), .int .i64 (q 4), .int .i64 (q 5), .int .i64 (q 6)]] w
    fun e w' => e = .returned (.string ⟨#[]⟩) ∧ Below w.heap.size w w' := by
  have HI := Lib.hid (fun W => (show Calls Tryd.prog 11 #[.agg #[.int .i64 (q 0), .int .i64 (q 1), .int .i64 (q 2), .int .i64 (q 3), .int .i64 (q 4), .int .i64 (q 5), .int .i64 (q 6)]] W fun e w' => e = .returned (.bool false) ∧ Below W.heap.size W w' from by
    have := isRight_any q W
    rwa [decide_eq_false hq] at this))
  obtain ⟨W1, hW1⟩ : ∃ W1, W1 = w.alloc (.cells #[.int .i64 (q 0), .int .i64 (q 1), .int .i64 (q 2), .int .i64 (q 3), .int .i64 (q 4), .int .i64 (q 5), .int .i64 (q 6)] 23) := ⟨_, rfl⟩
  have hb0 : Below w.heap.size w W1 := by rw [hW1]; exact (Below.refl w.heap.size w).alloc (Nat.le_refl _) _
  have hx : ∀ k, k < 7 → W1.cell? ⟨w.heap.size, k, none⟩ = some (.int .i64 (q k)) := fun k hk => by rw [hW1]; exact box7 q w 23 k hk
  have x0 := hx 0 (by omega)
  have x1 := hx 1 (by omega)
  have x2 := hx 2 (by omega)
  have x3 := hx 3 (by omega)
  have x4 := hx 4 (by omega)
  have x5 := hx 5 (by omega)
  have x6 := hx 6 (by omega)
  clear hx hq
  go_enter Tryd.func5, Tryd.ntmps5
  go_wp2_with fail
  rw [← hW1]
  clear hW1
  refine (HI.out _).mono ?_
  rintro e w2 ⟨rfl, hb2⟩
  go_wp2_with fail
  go_ret
  exact ⟨rfl, hb0.trans (hb2.mono hb0.size)⟩

set_option maxHeartbeats 4000000 in
set_option maxRecDepth 100000 in
theorem Text_yes (q : Nat → Int) (hq : chkW q = 0) (w : World) (hT : Tab w) : Calls Tryd.prog 5 #[.agg #[.int .i64 (q 0), .int .i64 (q 1), .int .i64 (q 2), .int .i64 (q 3), .int .i64 (q 4), .int .i64 (q 5), .int .i64 (q 6)]] w
    fun e w' => e = .returned (.string ⟨(txtK q 7).toArray⟩) ∧ Below w.heap.size w w' := by
  have HI := Lib.hid (fun W => (show Calls Tryd.prog 11 #[.agg #[.int .i64 (q 0), .int .i64 (q 1), .int .i64 (q 2), .int .i64 (q 3), .int .i64 (q 4), .int .i64 (q 5), .int .i64 (q 6)]] W fun e w' => e = .returned (.bool true) ∧ Below W.heap.size W w' from by
    have := isRight_any q W
    rwa [decide_eq_true hq] at this))
  have HQ := Lib.hid (chkW_bd hq)
  have HL := Lib.hid (txtK_len (chkW_bd hq))
  have HT := Lib.hid (tabBelow_of_tabIs hT)
  obtain ⟨R, hR⟩ : ∃ R : ByteArray, R = ⟨(txtK q 7).toArray⟩ := ⟨_, rfl⟩
  have HR := Lib.hid hR
  rw [← hR]
  obtain ⟨W1, hW1⟩ : ∃ W1, W1 = w.alloc (.cells #[.int .i64 (q 0), .int .i64 (q 1), .int .i64 (q 2), .int .i64 (q 3), .int .i64 (q 4), .int .i64 (q 5), .int .i64 (q 6)] 23) := ⟨_, rfl⟩
  have hb0 : Below w.heap.size w W1 := by rw [hW1]; exact (Below.refl w.heap.size w).alloc (Nat.le_refl _) _
  have hx : ∀ k, k < 7 → W1.cell? ⟨w.heap.size, k, none⟩ = some (.int .i64 (q k)) := fun k hk => by rw [hW1]; exact box7 q w 23 k hk
  have HX := Lib.hid hx
  have x0 := hx 0 (by omega)
  have x1 := hx 1 (by omega)
  have x2 := hx 2 (by omega)
  have x3 := hx 3 (by omega)
  have x4 := hx 4 (by omega)
  have x5 := hx 5 (by omega)
  have x6 := hx 6 (by omega)
  clear hx hq hT hR
  go_enter Tryd.func5, Tryd.ntmps5
  go_wp2_with fail
  rw [← hW1]
  clear hW1
  refine (HI.out _).mono ?_
  rintro e w2 ⟨rfl, hb2⟩
  replace x0 := stay hb2 x0
  replace x1 := stay hb2 x1
  replace x2 := stay hb2 x2
  replace x3 := stay hb2 x3
  replace x4 := stay hb2 x4
  replace x5 := stay hb2 x5
  replace x6 := stay hb2 x6
  have hb3 := hb0.trans (hb2.mono hb0.size)
  go_wp2_with fail
  clear x0 x1 x2 x3 x4 x5 x6 HI HX hb2
  have HIX := Lib.hid (fun k (hk : k < 7) W => week_index q k hk W)
  go_loopw [3, 10] (fun tv iv wr => ∃ (k n : Nat) (v : Value), k ≤ 7 ∧ iv = .int .i64 k ∧ tv = v ∧ n ≤ 35 ∧ Hid (n = (txtK q k).length) ∧ Hid (wr.ownsRow w.heap.size 5 1 v n (Lib.byteCells (txtK q k))) ∧ Below w.heap.size w wr) (fun _ iv _ => 7 - (RowKit.intOf iv).toNat)
  case atStart => exact ⟨0, 0, _, by omega, rfl, rfl, by omega, Lib.hid rfl, Lib.hid (World.ownsRow_nil _ _ _ _), hb3⟩
  case round =>
    obtain ⟨k, n, v, h7, rfl, rfl, hn, HN, HO, hb⟩ := hrel
    by_cases hlt : k < 7
    · have ix := HIX.out k hlt
      have j1 : (k : Int) < 7 := by omega
      have j0 : (0 : Int) ≤ (k : Int) := by omega
      have e1 : IntKind.i64.wrap ((k : Int) + 1) = (k : Int) + 1 := IntWalk.i64_in _ (by omega)
      have hqk := HQ.out k hlt
      have hl' := HL.out (k + 1) (by omega)
      have hlk : (txtK q (k + 1)).length = (txtK q k).length + ((if 0 < k then [(32 : UInt8)] else []).length + (itoa (q k)).length) := by
        show (txtK q k ++ ((if 0 < k then [32] else []) ++ itoa (q k))).length = _
        rw [List.length_append, List.length_append]
      by_cases h0 : 0 < k
      · have g1 : decide ((0 : Int) < (k : Int)) = true := by simp; omega
        obtain ⟨v', w3, hr, ho, hg⟩ := app_new Tryd.underlying35 infoU8 rfl (by omega) (by omega) w.heap.size 35 wr _ n _ HO.out 1 [.int .u8 32] rfl (fun u hu => by simp at hu; rcases hu with rfl; rfl) (by omega) hb.size
        have hb4 : Below w.heap.size w w3 := (hb.alloc hb.size _).grown hg (by simp; have := hb.size; omega) (fun j hj => (HO.out.lt j hj).1)
        have HA := Lib.hid (Tryd.strconv_AppendInt_10 w.heap.size (n + 1) (q k) (by omega) (by omega) v' _ w3 ho hb4.size (by omega) (HT.out.on hb4))
        have HX : Hid (Lib.byteCells (txtK q k) ++ [.int .u8 32] ++ Lib.byteCells (itoa (q k)) = Lib.byteCells (txtK q (k + 1)) ∧ n + 1 + (itoa (q k)).length = (txtK q (k + 1)).length) := Lib.hid (by
          refine ⟨?_, ?_⟩
          · show _ = Lib.byteCells (txtK q k ++ ((if 0 < k then [32] else []) ++ itoa (q k)))
            rw [if_pos h0]
            simp [Lib.byteCells]
          · rw [hlk, if_pos h0, HN.out]; simp; omega)
        have R1 := Lib.hid hr
        clear hr ho hg hlt hlk
        go_wp2_with (at_builtin; refine Lib.wpList_append_run _ rfl _ _ 35 35 rfl _ _ rfl rfl v' w3 (R1.out) ?_)
        refine (HA.out).mono ?_
        rintro e w5 ⟨v5, rfl, ho5, hb5, -⟩
        go_wp2_with fail
        exact ⟨⟨k + 1, n + 1 + (itoa (q k)).length, v5, by omega, rfl, rfl, by rw [HX.out.2]; omega, Lib.hid HX.out.2, Lib.hid (by rw [← HX.out.1]; exact ho5), hb4.trans hb5⟩, by simp [RowKit.intOf]; omega⟩
      · obtain rfl : k = 0 := by omega
        simp only [show ((0 : Nat) : Int) = 0 from rfl] at ix j1 j0 e1
        have hl2 : (txtK q 1).length ≤ 5 * (0 + 1) := hl'
        have HA := Lib.hid (Tryd.strconv_AppendInt_10 w.heap.size n (q 0) (by omega) (by omega) _ _ wr HO.out hb.size (by omega) (HT.out.on hb))
        have HX : Hid (Lib.byteCells (txtK q 0) ++ Lib.byteCells (itoa (q 0)) = Lib.byteCells (txtK q 1) ∧ n + (itoa (q 0)).length = (txtK q 1).length) := Lib.hid (by
          refine ⟨by simp [txtK, Lib.byteCells], ?_⟩
          rw [hlk, HN.out]; simp)
        clear hlt hlk h0
        go_wp2_with fail
        refine (HA.out).mono ?_
        rintro e w5 ⟨v5, rfl, ho5, hb5, -⟩
        go_wp2_with fail
        exact ⟨⟨1, n + (itoa (q 0)).length, v5, by omega, rfl, rfl, by rw [HX.out.2]; omega, Lib.hid HX.out.2, Lib.hid (by rw [← HX.out.1]; exact ho5), hb.trans hb5⟩, by simp [RowKit.intOf]⟩
    · obtain rfl : k = 7 := by omega
      have hpos : 0 < n := by
        rw [HN.out]
        have hd := dd_ne (q 6).toNat
        rw [← itoa_pos (HQ.out 6 (by omega)).1] at hd
        have := List.length_pos_iff.2 hd
        show 0 < (txtK q 6 ++ ((if 0 < 6 then [32] else []) ++ itoa (q 6))).length
        simp; omega
      have hcv := text_own HO.out HN.out hpos
      rw [← HR.out] at hcv
      go_wp2_with fail
      go_ret
      exact ⟨rfl, hb⟩

end Go.Proofs.YtbgilplaefdhbaaDoor
