/-
  What is proved: the contract of a period's Text, and that the document's first example comes out as it says ('awake' of the statements returns true). Conditions: the tables read as their texts lay them.
-/
import Derived.Test.YtfmabjfibjnkoaaDoorPdG
import Derived.Lib.SmallJoins
namespace Go.Proofs.YtfmabjfibjnkoaaDoor
open Go Go.RowKit Go.Proofs
set_option linter.unusedVariables false

/-- The tables as their texts lay them. -/
def Tab3 (w : World) : Prop := Tabs w ∧ Lib.TabIs Tryd.prog w "internal/strconv.uint64pow10" .u64 Lib.pow10Tab
theorem gPow : Tryd.prog.globalNamed "internal/strconv.uint64pow10" = some 2 := by kernel_rfl
theorem Tab3.stay {W W' : World} (h : Tab3 W) (hb : Below W.heap.size W W') : Tab3 W' := ⟨h.1.stay hb, Joins.tab_stays gPow h.2 hb (Nat.le_refl _)⟩
theorem below_grow (w : World) (q : Nat) (os : Array Obj) : Below w.heap.size w (Sort.grow (w.drewN q) os) :=
  ⟨rfl, rfl, rfl, by simp [Sort.grow], fun i hi => by
    show ((w.drewN q).heap ++ os)[i]? = _
    rw [Array.getElem?_append_left (by show i < w.heap.size; omega)]
    rfl⟩
theorem itoa_any (n : Int) (h0 : -9223372036854775808 ≤ n) (h1 : n ≤ 9223372036854775807) (w : World) (hT : Tab3 w) : Calls Tryd.prog 36 #[.int .i64 n] w fun e w' => e = .returned (.string ⟨(Lib.itoa n).toArray⟩) ∧ Below w.heap.size w w' :=
  (Tryd.strconv_Itoa n h0 h1 w hT.2).mono fun e w' ⟨he, k, os, hw⟩ => ⟨he, by rw [hw]; exact below_grow w k os⟩
theorem dec_len : ∀ (k u : Nat), u < 10 ^ (k + 1) → (Lib.decDigits u).length ≤ k + 1
  | 0, u, h => by
    rw [Lib.decDigits, dif_pos (by simpa using h)]; simp
  | k + 1, u, h => by
    rw [Lib.decDigits]
    split
    · simp
    · have := dec_len k (u / 10) (by rw [Nat.pow_succ] at h; omega)
      simp; omega
theorem itoa_len {n : Int} (h0 : -9223372036854775808 ≤ n) (h1 : n ≤ 9223372036854775807) : (⟨(Lib.itoa n).toArray⟩ : ByteArray).size ≤ 100 := by
  show (Lib.itoa n).toArray.size ≤ 100
  rw [List.size_toArray]
  unfold Lib.itoa
  split
  · have := dec_len 19 n.natAbs (by have : n.natAbs ≤ 9223372036854775808 := by omega
                                    exact Nat.lt_of_le_of_lt this (by decide))
    simp; omega
  · have := dec_len 19 n.toNat (by have : n.toNat ≤ 9223372036854775808 := by omega
                                   exact Nat.lt_of_le_of_lt this (by decide))
    omega
/-- A period's text. -/
def txtB (y i : Int) : ByteArray := if 0 ≤ i ∧ i ≤ 9 then ⟨(Lib.itoa y).toArray⟩ ++ ⟨#[47]⟩ ++ ⟨#[48]⟩ ++ ⟨(Lib.itoa i).toArray⟩ else ⟨(Lib.itoa y).toArray⟩ ++ ⟨#[47]⟩ ++ ⟨(Lib.itoa i).toArray⟩
set_option maxHeartbeats 1000000 in
theorem Text_any (y i n a b p : Int) (w : World) (hT : Tab3 w) (y0 : -9223372036854775808 ≤ y) (y1 : y ≤ 9223372036854775807) (i0 : -9223372036854775808 ≤ i) (i1 : i ≤ 9223372036854775807) :
    Calls Tryd.prog 23 #[.agg #[.int .i64 y, .int .i64 i, .int .i64 n, .int .i64 a, .int .i64 b, .int .i64 p]] w fun e w' => e = .returned (.string (txtB y i)) ∧ Below w.heap.size w w' := by
  obtain ⟨W1, hW1⟩ : ∃ W1, W1 = w.alloc (.cells #[.int .i64 y, .int .i64 i, .int .i64 n, .int .i64 a, .int .i64 b, .int .i64 p] 30) := ⟨_, rfl⟩
  have hb0 : Below w.heap.size w W1 := by rw [hW1]; exact (Below.refl w.heap.size w).alloc (Nat.le_refl _) _
  have x1 : W1.cell? ⟨w.heap.size, 1, none⟩ = some (.int .i64 i) := by rw [hW1, World.cell?_alloc_new]; rfl
  have hT1 := Lib.hid (hT.stay hb0)
  have H1 := Lib.hid (itoa_any y y0 y1 W1 hT1.out)
  have H2 := Lib.hid (fun W hT => itoa_any i i0 i1 W hT)
  obtain ⟨R, hR⟩ : ∃ R, R = txtB y i := ⟨_, rfl⟩
  have HR := Lib.hid hR
  rw [← hR]
  unfold txtB at HR
  have hA := itoa_len y0 y1
  have hB := itoa_len i0 i1
  clear hR hT y0 y1
  generalize (⟨(Lib.itoa y).toArray⟩ : ByteArray) = A at *
  generalize (⟨(Lib.itoa i).toArray⟩ : ByteArray) = B at *
  by_cases h : 0 ≤ i ∧ i ≤ 9
  · have HR2 : Hid (R = A ++ ⟨#[47]⟩ ++ ⟨#[48]⟩ ++ B) := Lib.hid (by rw [HR.out, if_pos h])
    obtain ⟨h2, h3⟩ := h
    clear HR
    go_enter Tryd.func23, Tryd.ntmps23
    go_wp2_with fail
    rw [← hW1]
    clear hW1
    refine (H1.out).mono ?_
    rintro e w2 ⟨rfl, hb2⟩
    have z1 := stay hb2 x1
    have hb3 := hb0.trans (hb2.mono hb0.size)
    go_wp2_with fail
    refine (H2.out _ (hT1.out.stay hb2)).mono ?_
    rintro e w4 ⟨rfl, hb4⟩
    have hb5 := hb3.trans (hb4.mono hb3.size)
    go_wp2
    go_ret
    exact ⟨by rw [HR2.out]; rfl, hb5⟩
  · have HR2 : Hid (R = A ++ ⟨#[47]⟩ ++ B) := Lib.hid (by rw [HR.out, if_neg h])
    clear HR
    rcases Int.lt_or_le i 0 with h2 | h2
    · have h3 : ¬ 0 ≤ i := by omega
      clear h
      go_enter Tryd.func23, Tryd.ntmps23
      go_wp2_with fail
      rw [← hW1]
      clear hW1
      refine (H1.out).mono ?_
      rintro e w2 ⟨rfl, hb2⟩
      have z1 := stay hb2 x1
      have hb3 := hb0.trans (hb2.mono hb0.size)
      go_wp2_with fail
      refine (H2.out _ (hT1.out.stay hb2)).mono ?_
      rintro e w4 ⟨rfl, hb4⟩
      have hb5 := hb3.trans (hb4.mono hb3.size)
      go_wp2
      go_ret
      exact ⟨by rw [HR2.out]; rfl, hb5⟩
    · have h3 : ¬ i ≤ 9 := by omega
      clear h
      go_enter Tryd.func23, Tryd.ntmps23
      go_wp2_with fail
      rw [← hW1]
      clear hW1
      refine (H1.out).mono ?_
      rintro e w2 ⟨rfl, hb2⟩
      have z1 := stay hb2 x1
      have hb3 := hb0.trans (hb2.mono hb0.size)
      go_wp2_with fail
      refine (H2.out _ (hT1.out.stay hb2)).mono ?_
      rintro e w4 ⟨rfl, hb4⟩
      have hb5 := hb3.trans (hb4.mono hb3.size)
      go_wp2
      go_ret
      exact ⟨by rw [HR2.out]; rfl, hb5⟩

/-- The months of 2024. -/
def K24 : List (Int × Int) := (List.range 12).map fun (j : Nat) => (jan 2024 + cum 2024 ((j : Int) + 1), jan 2024 + cum 2024 ((j : Int) + 2))
theorem month_list (f y : Int) (h1 : 1900 ≤ y) (h2 : y ≤ 2199) : IsYear 0 f y ((List.range 12).map fun (j : Nat) => (jan y + cum y ((j : Int) + 1), jan y + cum y ((j : Int) + 2))) := by
  have hjy := jan_bd y h1 (by omega)
  have hjz := jan_bd (y + 1) (by omega) (by omega)
  refine ⟨?_, fun s => ?_⟩
  · rw [List.pairwise_map, List.pairwise_iff_getElem]
    intro i j hi hj hij
    simp at hi hj
    simp only [List.getElem_range]
    have := cum_mono y ((i : Int) + 1) ((j : Int) + 1) (by omega) (by omega) (by omega)
    have := dim_bd y ((i : Int) + 1)
    omega
  · rw [List.mem_map]
    constructor
    · rintro ⟨j, hj, rfl⟩
      rw [List.mem_range] at hj
      obtain ⟨m1, m2⟩ := month_year (y := y) (m := (j : Int) + 1) (by omega) (by omega)
      have hc := cum_succ y ((j : Int) + 1) (by omega) (by omega)
      have hd := dim_bd y ((j : Int) + 1)
      have hcb := cum_bd y ((j : Int) + 1)
      rw [show (j : Int) + 1 + 1 = (j : Int) + 2 by omega] at m2 hc
      exact ⟨.inl ⟨rfl, y, (j : Int) + 1, h1, h2, by omega, by omega, rfl, by rw [show (j : Int) + 1 + 1 = (j : Int) + 2 by omega]⟩, by dsimp only; omega, by dsimp only; omega, by dsimp only; omega, by dsimp only; omega⟩
    · rintro ⟨hB, -, -, e1, e2⟩
      rcases hB with ⟨-, z, m, z1, z2, m1, m2, ha, hb⟩ | ⟨hk, -⟩
      · have hm := month_year (y := z) (m := m) m1 m2
        have hc := cum_succ z m m1 m2
        have hd := dim_bd z m
        have hcb := cum_bd z m
        obtain rfl : z = y := year_one (d := s.2 - 1) (by omega) (by omega) (by omega) (by omega)
        refine ⟨(m - 1).toNat, List.mem_range.2 (by omega), ?_⟩
        rw [show (((m - 1).toNat : Nat) : Int) + 1 = m by omega, show (((m - 1).toNat : Nat) : Int) + 2 = m + 1 by omega]
        exact Prod.ext ha.symm hb.symm
      · omega
theorem found24 : FindR 0 0 5 19763 2024 2 12 19754 19783 19787 0 := by
  refine OwnP.found (by decide) ⟨by omega, by omega, _, month_list 0 2024 (by omega) (by omega), 1, by decide, by decide, by decide, by decide, by decide⟩ (by omega) (by omega)
theorem txt24 : txtB 2024 2 = ⟨#[50, 48, 50, 52, 47, 48, 50]⟩ := by decide +kernel

set_option maxHeartbeats 1000000 in
set_option maxRecDepth 100000 in
theorem awake_any (w : World) (hT : Tab3 w) : Calls Tryd.prog 10 #[] w fun e w' => e = .returned (.bool true) ∧ Below w.heap.size w w' := by
  have HF := Lib.hid (Find_any 0 0 5 19763 w hT.1)
  have HX : Hid (∀ W, Tab3 W → Calls Tryd.prog 23 #[.agg #[.int .i64 2024, .int .i64 2, .int .i64 12, .int .i64 19754, .int .i64 19783, .int .i64 19787]] W fun e w' => e = .returned (.string ⟨#[50, 48, 50, 52, 47, 48, 50]⟩) ∧ Below W.heap.size W w') := Lib.hid (fun W hT => by
    have := Text_any 2024 2 12 19754 19783 19787 W hT (by omega) (by omega) (by omega) (by omega)
    rwa [txt24] at this)
  have HT := Lib.hid hT
  clear hT
  go_enter Tryd.func10, Tryd.ntmps10
  go_wp2_with fail
  refine (HF.out).mono ?_
  rintro e w2 ⟨y, i, n, a, b, p, e', rfl, hR, hb2⟩
  obtain ⟨rfl, rfl, rfl, rfl, rfl, rfl, rfl⟩ := hR.one found24
  have hT2 := HT.out.stay hb2
  have hb3 := (Below.refl w2.heap.size w2).alloc (Nat.le_refl _) (.cells #[.int .i64 2024, .int .i64 2, .int .i64 12, .int .i64 19754, .int .i64 19783, .int .i64 19787] 30)
  have hT3 := Lib.hid (hT2.stay hb3)
  have hb4 := hb2.trans (hb3.mono hb2.size)
  clear hR hT2 hb2 hb3
  go_wp2_with fail
  refine (HX.out _ hT3.out).mono ?_
  rintro e w4 ⟨rfl, hb5⟩
  have hb6 := hb4.trans (hb5.mono hb4.size)
  go_wp2
  go_ret
  exact ⟨rfl, hb6⟩

end Go.Proofs.YtfmabjfibjnkoaaDoor
