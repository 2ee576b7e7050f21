/-
  What is proved: strconv.AppendInt at base 10 and a number from 0 on, onto a slice of bytes of the call's own: the number's digits come behind the bytes. Conditions: the table of powers of ten reads as the library lays it; the lengths stay below 2^47.
-/
import Derived.Test.YthdjpkpkkdnofaaDoorShelf
import Derived.Test.YthdjpkpkkdnofaaDoorBuf
import Derived.Lib.ItoaMem
import Derived.Lib.ItoaLen
import Derived.Lib.AppendIntMem
import Derived.Lib.ItoaWalk
import Derived.BigCall
import Derived.BigGuard
import Derived.CellFam
import Derived.OwnWalk
namespace Go.Proofs.YthdjpkpkkdnofaaDoor
open Go Go.RowKit Go.Sort Go.Lib Go.Proofs

theorem byteInfo : (Tryd.prog.info? 5).map (fun i => (i.zero, i.size, i.bytes)) = some (some (.int .u8 0), 1, 1) := by kernel_rfl

set_option maxHeartbeats 6400000 in
set_option maxRecDepth 100000 in
theorem appendUint_small (B u : Nat) (hu : u < 100) (sv : Value) (l : List UInt8) (w : World) (hown : Buf B w sv l) (hBw : B ≤ w.heap.size) (hlim : l.length + 20 ≤ 140737488355328) :
    Calls Tryd.prog 64 #[sv, .int .u64 u, .int .i64 10] w fun e w' => ∃ v', e = .returned v' ∧ Buf B w' v' (l ++ decDigits u) ∧ Below B w w' := by
  obtain ⟨i0, hi, hz0, hz1, hz2⟩ := info_parts byteInfo
  have hlen : (decDigits u).length ≤ 20 := by
    rw [decDigits_length]
    by_cases h10 : u < 10
    · rw [nDigits_small h10]; omega
    · rw [nDigits_big h10, nDigits_small (show u / 10 < 10 by omega)]; omega
  have hsz : (⟨(decDigits u).toArray⟩ : ByteArray).size = (decDigits u).length := by simp [ByteArray.size]
  have hsrc := Src.ofString (P := Tryd.prog) w Tryd.underlying9 ⟨(decDigits u).toArray⟩
  have hbc : Go.byteCells ⟨(decDigits u).toArray⟩ = Lib.byteCells (decDigits u) := rfl
  rw [hbc, hsz] at hsrc
  clear hbc hsz
  go_enter Tryd.func64, Tryd.ntmps64
  go_wp2_with (first
    | (go_at_call 76; refine (Tryd.internal_strconv_small u hu _).mono ?_; rintro e w' ⟨rfl, rfl⟩)
    | (at_builtin; refine wpList_append_buf rfl _ _ 62 9 rfl 5 i0 Tryd.underlying62 hi hz0 hz1 hz2 B _ sv l rfl hown hBw (.string ⟨(decDigits u).toArray⟩) rfl (decDigits u) hsrc (by omega) ?_))
  intro v' w1 hown' hbel
  go_wp2
  go_ret
  exact ⟨v', rfl, hown', hbel⟩

set_option maxHeartbeats 6400000 in
set_option maxRecDepth 100000 in
theorem appendUint_big (B u : Nat) (hu : 100 ≤ u) (hu64 : u < 18446744073709551616) (sv : Value) (l : List UInt8) (w : World) (hown : Buf B w sv l) (hBw : B ≤ w.heap.size) (hlim : l.length + 20 ≤ 140737488355328)
    (htab : TabIs Tryd.prog w "internal/strconv.uint64pow10" .u64 pow10Tab) :
    Calls Tryd.prog 64 #[sv, .int .u64 u, .int .i64 10] w fun e w' => ∃ v', e = .returned v' ∧ Buf B w' v' (l ++ decDigits u) ∧ Below B w w' := by
  obtain ⟨i0, hi, hz0, hz1, hz2⟩ := info_parts byteInfo
  have hu1 : 1 ≤ u := by omega
  have hnd20 : nDigits u ≤ 20 := by have := numDigits_eq u hu1 hu64; split at this <;> omega
  have hlenD : (decDigits u).length = nDigits u := decDigits_length u
  have hal : Tryd.prog.arrayLen 101 = 24 := by simp [Program.arrayLen, Tryd.underlying101]
  have hsl : ∀ W, (Instr.sliceAt 101 (.pointer (some ⟨w.heap.size, 0, none⟩)) none (some (.int .i64 (nDigits u : Int))) none).run Tryd.prog W = .ok (.slice (some ⟨w.heap.size, 0, none⟩) (nDigits u) 24) W := fun W => by
    rw [run_sliceAt_array_h W 101 ⟨w.heap.size, 0, none⟩ (by simp [Program.arrayLen, Program.elem, Tryd.underlying101]) .i64 (nDigits u : Int) (by omega) (by rw [hal]; omega)]
    go_simp
  have hH0 := holds_zero0 w 101 (nDigits u) (by omega)
  have hfmt := Tryd.internal_strconv_formatBase10 w.heap.size 0 24 u (Array.replicate (nDigits u) 0) (w.alloc (.cells zeros24 101)) hH0 (by rw [Array.size_replicate]; exact lt_pow_nDigits u) hu64 (by rw [Array.size_replicate]; omega)
  rw [Array.size_replicate] at hfmt
  have HH0 := Lib.hid hH0
  have HLD := Lib.hid hlenD
  have iu : (100 : Int) ≤ (u : Int) := by omega
  clear hH0 hal hlenD
  go_enter Tryd.func64, Tryd.ntmps64
  go_wp2_with (first
    | (go_at_call 77; refine (Tryd.internal_strconv_numDigits u hu1 hu64 _ (tabIs_alloc htab _)).mono ?_; rintro e w' ⟨rfl, rfl⟩)
    | (go_at_call 78; fail))
  refine hfmt.mono ?_
  rintro e w' ⟨rfl, k, v', dk, rfl, hF⟩
  have hcells : ∀ j u', (Lib.byteCells (decDigits u))[j]? = some u' → ((putRow (fun (b : UInt8) => Value.int .u8 (b.toNat : Int)) (w.alloc (.cells zeros24 101)) w.heap.size 0 dk).drewN k).cell? ((⟨w.heap.size, 0, none⟩ : Addr).add j) = some u' := by
    intro j u' hj
    have hjl : j < (decDigits u).length := by
      have h5 := (List.getElem?_eq_some_iff.1 hj).1
      simpa [Lib.byteCells] using h5
    have e5 : (Lib.byteCells (decDigits u))[j]? = some (Value.int .u8 ((decDigits u)[j].toNat : Int)) := by simp [Lib.byteCells, hjl]
    rw [e5] at hj
    cases hj
    rw [row_is_numeral hF j hjl, addr_add, World.cell?_drewN]
    have hc := cell?_putRow (fun (b : UInt8) => Value.int .u8 (b.toNat : Int)) _ w.heap.size 0 _ dk HH0.out (by rw [hF.size, Array.size_replicate]) j (by rw [hF.size]; rw [HLD.out] at hjl; exact hjl)
    rw [Nat.zero_add] at hc
    exact hc
  obtain ⟨os, eo⟩ := fin_at w (.cells zeros24 101) dk k 0
  have hnx0 : Below w.heap.size w ((putRow (fun (b : UInt8) => Value.int .u8 (b.toNat : Int)) (w.alloc (.cells zeros24 101)) w.heap.size 0 dk).drewN k) := by rw [eo]; exact below_grow w.heap.size w (Nat.le_refl _) k os
  have hown2 := hown.below hnx0 (Nat.le_refl _)
  have hnx2 := hnx0.mono hBw
  have hsz2 := hnx0.size
  generalize (putRow (fun (b : UInt8) => Value.int .u8 (b.toNat : Int)) (w.alloc (.cells zeros24 101)) w.heap.size 0 dk).drewN k = W2 at hcells hown2 hnx2 hsz2 ⊢
  clear eo HH0 hfmt hnx0
  have hsrc := Src.ofSlice (P := Tryd.prog) W2 (size := 1) (tx := 62) Tryd.underlying62 ⟨w.heap.size, 0, none⟩ (nDigits u) 24 (Lib.byteCells (decDigits u)) (by rw [Nat.mul_one]; simp [Lib.byteCells, HLD.out]) hcells (by intro u' hu'; simp only [Lib.byteCells, List.mem_map] at hu'; obtain ⟨b, _, rfl⟩ := hu'; rfl)
  have hsrc' : Src Tryd.prog 1 62 (.slice (some ⟨w.heap.size, 0, none⟩) (nDigits u) 24) (decDigits u).length (Lib.byteCells (decDigits u)) W2 := by rw [HLD.out]; exact hsrc
  have hlen20 : (decDigits u).length ≤ 20 := by rw [HLD.out]; exact hnd20
  clear hsrc hcells
  go_wp2_with (at_builtin; refine wpList_append_buf rfl _ _ 62 62 rfl 5 i0 Tryd.underlying62 hi hz0 hz1 hz2 B _ sv l rfl hown2 (by omega) (.slice (some ⟨w.heap.size, 0, none⟩) (nDigits u) 24) rfl (decDigits u) hsrc' (by omega) ?_)
  intro v2 w3 hown' hb3
  go_wp2
  go_ret
  exact ⟨v2, rfl, hown', hnx2.trans hb3⟩

theorem appendInt_in (B n : Nat) (h64 : n ≤ 9223372036854775807) (sv : Value) (l : List UInt8) (w : World) (hown : Buf B w sv l) (hBw : B ≤ w.heap.size) (hlim : l.length + 20 ≤ 140737488355328)
    (htab : TabIs Tryd.prog w "internal/strconv.uint64pow10" .u64 pow10Tab) :
    Calls Tryd.prog 50 #[sv, .int .i64 n, .int .i64 10] w fun e w' => ∃ v', e = .returned v' ∧ Buf B w' v' (l ++ decDigits n) ∧ Below B w w' := by
  have hA : Calls Tryd.prog 64 #[sv, .int .u64 n, .int .i64 10] w fun e w' => ∃ v', e = .returned v' ∧ Buf B w' v' (l ++ decDigits n) ∧ Below B w w' := by
    by_cases h : n < 100
    · exact appendUint_small B n h sv l w hown hBw hlim
    · exact appendUint_big B n (by omega) (by omega) sv l w hown hBw hlim htab
  have HA := Lib.hid hA
  clear hA
  go_enter Tryd.func50, Tryd.ntmps50
  go_wp2_with (go_at_call 64; refine (HA.out).mono ?_; rintro e w2 ⟨v2, rfl, hown2, hnx2⟩)
  go_ret
  exact ⟨v2, rfl, hown2, hnx2⟩

/-- strconv.AppendInt, at base 10. -/
theorem appendInt_any (B n : Nat) (h64 : n ≤ 9223372036854775807) (sv : Value) (l : List UInt8) (w : World) (hown : Buf B w sv l) (hBw : B ≤ w.heap.size) (hlim : l.length + 20 ≤ 140737488355328)
    (htab : TabIs Tryd.prog w "internal/strconv.uint64pow10" .u64 pow10Tab) :
    Calls Tryd.prog 40 #[sv, .int .i64 n, .int .i64 10] w fun e w' => ∃ v', e = .returned v' ∧ Buf B w' v' (l ++ decDigits n) ∧ Below B w w' := by
  have HA := Lib.hid (appendInt_in B n h64 sv l w hown hBw hlim htab)
  go_enter Tryd.func40, Tryd.ntmps40
  go_wp2_with (go_at_call 50; refine (HA.out).mono ?_; rintro e w2 ⟨v2, rfl, hown2, hnx2⟩)
  go_ret
  exact ⟨v2, rfl, hown2, hnx2⟩

end Go.Proofs.YthdjpkpkkdnofaaDoor
