/-
  What is proved: the contract of cents.Text: the text of any amount that fits, digit by digit; nothing of others. Conditions: the table of powers of ten reads as the library lays it.
-/
import Derived.Test.YthdjpkpkkdnofaaDoorCentsA
import Derived.Test.YthdjpkpkkdnofaaDoorAppend
import Derived.Lib.ItoaLen
namespace Go.Proofs.YthdjpkpkkdnofaaDoor
open Go Go.RowKit Go.Sort Go.Lib Go.Proofs

theorem appendInt_int (B : Nat) (z : Int) (h0 : 0 ≤ z) (h64 : z ≤ 9223372036854775807) (sv : Value) (l : List UInt8) (w : World) (hown : Buf B w sv l) (hBw : B ≤ w.heap.size) (hlim : l.length + 20 ≤ 140737488355328)
    (htab : TabIs Tryd.prog w "internal/strconv.uint64pow10" .u64 pow10Tab) :
    Calls Tryd.prog 40 #[sv, .int .i64 z, .int .i64 10] w fun e w' => ∃ v', e = .returned v' ∧ Buf B w' v' (l ++ decDigits z.toNat) ∧ Below B w w' := by
  obtain ⟨n, rfl⟩ := Int.eq_ofNat_of_zero_le h0
  rw [Int.toNat_natCast]
  exact appendInt_any B n (by omega) sv l w hown hBw hlim htab

/-- The text of an amount that isn't below 0. -/
def bodyText (n : Nat) : List UInt8 := decDigits (n / 100) ++ [46, 48 + UInt8.ofNat (n / 10 % 10), 48 + UInt8.ofNat (n % 10)]
/-- An amount's text. -/
def centsText (c : Int) : List UInt8 := if fitsB c = true then (if c < 0 then 45 :: bodyText c.natAbs else bodyText c.natAbs) else []

theorem ofNat_cell (k : Nat) (hk : k < 10) : Value.int .u8 ((48 + UInt8.ofNat k).toNat : Int) = .int .u8 (48 + (k : Int)) := by
  have e : (48 + UInt8.ofNat k).toNat = 48 + k := by
    rw [UInt8.toNat_add, UInt8.toNat_ofNat_of_lt' (by show k < 256; omega)]
    show (48 + k) % 256 = 48 + k
    omega
  rw [e]; simp
theorem lastCells (n : Nat) : Lib.byteCells [46, 48 + UInt8.ofNat (n / 10 % 10), 48 + UInt8.ofNat (n % 10)] = [.int .u8 46, .int .u8 (48 + (n : Int) / 10 % 10), .int .u8 (48 + (n : Int) % 10)] := by
  have e1 := ofNat_cell (n / 10 % 10) (by omega)
  have e2 := ofNat_cell (n % 10) (by omega)
  simp only [Lib.byteCells, List.map_cons, List.map_nil]
  rw [e1, e2]
  simp
theorem decDigits_len (u : Nat) (h : u < 18446744073709551616) : (decDigits u).length ≤ 20 := by
  rw [decDigits_length]
  by_cases h1 : 1 ≤ u
  · have := numDigits_eq u h1 h; split at this <;> omega
  · rw [nDigits_small (by omega)]; omega

set_option maxHeartbeats 1600000 in
set_option maxRecDepth 100000 in
theorem text_pos (n : Nat) (hn : n ≤ 1125899906842624) (w : World) (htab : TabIs Tryd.prog w "internal/strconv.uint64pow10" .u64 pow10Tab) :
    Calls Tryd.prog 26 #[.int .i64 n] w fun e w' => e = .returned (.string ⟨(bodyText n).toArray⟩) ∧ Below w.heap.size w w' := by
  obtain ⟨i0, hi, hz0, hz1, hz2⟩ := info_parts byteInfo
  have hfit : fitsB n = true := fitsB_yes (by omega) (by omega)
  have hn0 : ¬ ((n : Int) < 0) := by omega
  have hcv := run_bytes_of_string (P := Tryd.prog) w 9 62 5 ⟨#[]⟩ Tryd.underlying9 Tryd.underlying62 Tryd.underlying5
  obtain ⟨C, hC⟩ : ∃ C, C = bytesRow ⟨#[]⟩ (grownCap w 0 0 5) := ⟨_, rfl⟩
  have hbuf : Buf w.heap.size (w.alloc (.cells (bytesRow ⟨#[]⟩ (grownCap w 0 0 5)) 5 ((bytesRow ⟨#[]⟩ (grownCap w 0 0 5)).size, (bytesRow ⟨#[]⟩ (grownCap w 0 0 5)).size + 1))).drew (.slice (some ⟨w.heap.size, 0, none⟩) 0 (grownCap w 0 0 5)) [] :=
    buf_of_string w ⟨#[]⟩ 5 [] rfl (by unfold maxLen; decide) w.heap.size (Nat.le_refl _)
  have hnx : Below w.heap.size w (w.alloc (.cells (bytesRow ⟨#[]⟩ (grownCap w 0 0 5)) 5 ((bytesRow ⟨#[]⟩ (grownCap w 0 0 5)).size, (bytesRow ⟨#[]⟩ (grownCap w 0 0 5)).size + 1))).drew := ((Below.refl _ w).alloc (Nat.le_refl _) _).drew
  have hT := tabBelow_of_tabIs htab
  clear hC
  go_enter Tryd.func26, Tryd.ntmps26
  go_wp2_with (first | (go_at_call 19; refine (fits_any _ _).mono ?_; rintro e w' ⟨rfl, rfl⟩) | (go_at_call 40; fail))
  refine (appendInt_int w.heap.size _ (by omega) (by omega) _ [] _ hbuf hnx.size (by simp) (hT _ hnx)).mono ?_
  clear hcv
  rintro e w1 ⟨v1, rfl, hb1, hnx1⟩
  have hnx2 := hnx.trans hnx1
  rw [List.nil_append] at hb1
  clear hbuf hnx hnx1
  have hbc : Lib.byteCells [46, 48 + UInt8.ofNat (n / 10 % 10), 48 + UInt8.ofNat (n % 10)] = [.int .u8 46, .int .u8 (48 + (n : Int) / 10 % 10), .int .u8 (48 + (n : Int) % 10)] := lastCells n
  have hsrc : Src Tryd.prog 1 62 (.slice (some ⟨w1.heap.size, 0, none⟩) 3 3) 3 (Lib.byteCells [46, 48 + UInt8.ofNat (n / 10 % 10), 48 + UInt8.ofNat (n % 10)]) (w1.alloc (.cells #[.int .u8 46, .int .u8 (48 + (n : Int) / 10 % 10), .int .u8 (48 + (n : Int) % 10)] 5)) :=
    Src.ofSlice _ Tryd.underlying62 ⟨w1.heap.size, 0, none⟩ 3 3 _ rfl (by
      rw [hbc]
      intro j u hj
      rw [addr_add, World.cell?_alloc_new]
      simpa using hj) (by rw [hbc]; intro u hu; simp at hu; rcases hu with rfl | rfl | rfl <;> rfl)
  have hlen : (decDigits ((n : Int) / 100).toNat).length ≤ 20 := decDigits_len _ (by omega)
  have hsz1 := hnx2.size
  clear hbc
  go_wp2_with (at_builtin; refine wpList_append_buf rfl _ _ 62 62 rfl 5 i0 Tryd.underlying62 hi hz0 hz1 hz2 w.heap.size _ v1 _ rfl (hb1.alloc _) (by simp; omega) (.slice (some ⟨w1.heap.size, 0, none⟩) 3 3) rfl [46, 48 + UInt8.ofNat (n / 10 % 10), 48 + UInt8.ofNat (n % 10)] hsrc (by simp; omega) ?_)
  intro v2 w2 hb2 hnx3
  have hnx4 := (hnx2.alloc hsz1 _).trans hnx3
  have hback := run_string_buf (P := Tryd.prog) w2 62 9 5 Tryd.underlying62 Tryd.underlying5 Tryd.underlying9 _ v2 _ hb2
  clear hb2 hsrc hnx3
  go_wp2
  go_ret
  exact ⟨rfl, hnx4⟩

set_option maxHeartbeats 1600000 in
set_option maxRecDepth 100000 in
theorem text_neg (n : Nat) (h1 : 1 ≤ n) (hn : n ≤ 1125899906842624) (w : World) (htab : TabIs Tryd.prog w "internal/strconv.uint64pow10" .u64 pow10Tab) :
    Calls Tryd.prog 26 #[.int .i64 (-(n : Int))] w fun e w' => e = .returned (.string ⟨(45 :: bodyText n).toArray⟩) ∧ Below w.heap.size w w' := by
  obtain ⟨i0, hi, hz0, hz1, hz2⟩ := info_parts byteInfo
  have hfit : fitsB (-(n : Int)) = true := fitsB_yes (by omega) (by omega)
  have hn0 : -(n : Int) < 0 := by omega
  have hcv := run_bytes_of_string (P := Tryd.prog) w 9 62 5 ⟨#[45]⟩ Tryd.underlying9 Tryd.underlying62 Tryd.underlying5
  obtain ⟨C, hC⟩ : ∃ C, C = bytesRow ⟨#[45]⟩ (grownCap w 1 0 5) := ⟨_, rfl⟩
  have hbuf : Buf w.heap.size (w.alloc (.cells (bytesRow ⟨#[45]⟩ (grownCap w 1 0 5)) 5 ((bytesRow ⟨#[45]⟩ (grownCap w 1 0 5)).size, (bytesRow ⟨#[45]⟩ (grownCap w 1 0 5)).size + 1))).drew (.slice (some ⟨w.heap.size, 0, none⟩) 1 (grownCap w 1 0 5)) [45] :=
    buf_of_string w ⟨#[45]⟩ 5 [45] rfl (by unfold maxLen; decide) w.heap.size (Nat.le_refl _)
  have hnx : Below w.heap.size w (w.alloc (.cells (bytesRow ⟨#[45]⟩ (grownCap w 1 0 5)) 5 ((bytesRow ⟨#[45]⟩ (grownCap w 1 0 5)).size, (bytesRow ⟨#[45]⟩ (grownCap w 1 0 5)).size + 1))).drew := ((Below.refl _ w).alloc (Nat.le_refl _) _).drew
  have hT := tabBelow_of_tabIs htab
  clear hC
  go_enter Tryd.func26, Tryd.ntmps26
  go_wp2_with (first | (go_at_call 19; refine (fits_any _ _).mono ?_; rintro e w' ⟨rfl, rfl⟩) | (go_at_call 40; fail))
  refine (appendInt_int w.heap.size _ (by omega) (by omega) _ [45] _ hbuf hnx.size (by simp) (hT _ hnx)).mono ?_
  clear hcv
  rintro e w1 ⟨v1, rfl, hb1, hnx1⟩
  have hnx2 := hnx.trans hnx1
  clear hbuf hnx hnx1
  have hbc : Lib.byteCells [46, 48 + UInt8.ofNat (n / 10 % 10), 48 + UInt8.ofNat (n % 10)] = [.int .u8 46, .int .u8 (48 + (n : Int) / 10 % 10), .int .u8 (48 + (n : Int) % 10)] := lastCells n
  have hsrc : Src Tryd.prog 1 62 (.slice (some ⟨w1.heap.size, 0, none⟩) 3 3) 3 (Lib.byteCells [46, 48 + UInt8.ofNat (n / 10 % 10), 48 + UInt8.ofNat (n % 10)]) (w1.alloc (.cells #[.int .u8 46, .int .u8 (48 + (n : Int) / 10 % 10), .int .u8 (48 + (n : Int) % 10)] 5)) :=
    Src.ofSlice _ Tryd.underlying62 ⟨w1.heap.size, 0, none⟩ 3 3 _ rfl (by
      rw [hbc]
      intro j u hj
      rw [addr_add, World.cell?_alloc_new]
      simpa using hj) (by rw [hbc]; intro u hu; simp at hu; rcases hu with rfl | rfl | rfl <;> rfl)
  have hlen : (decDigits ((n : Int) / 100).toNat).length ≤ 20 := decDigits_len _ (by omega)
  have hsz1 := hnx2.size
  clear hbc
  go_wp2_with (at_builtin; refine wpList_append_buf rfl _ _ 62 62 rfl 5 i0 Tryd.underlying62 hi hz0 hz1 hz2 w.heap.size _ v1 _ rfl (hb1.alloc _) (by simp; omega) (.slice (some ⟨w1.heap.size, 0, none⟩) 3 3) rfl [46, 48 + UInt8.ofNat (n / 10 % 10), 48 + UInt8.ofNat (n % 10)] hsrc (by simp; omega) ?_)
  intro v2 w2 hb2 hnx3
  have hnx4 := (hnx2.alloc hsz1 _).trans hnx3
  have hback := run_string_buf (P := Tryd.prog) w2 62 9 5 Tryd.underlying62 Tryd.underlying5 Tryd.underlying9 _ v2 _ hb2
  clear hb2 hsrc hnx3
  go_wp2
  go_ret
  exact ⟨rfl, hnx4⟩

theorem text_any (c : Int) (w : World) (htab : TabIs Tryd.prog w "internal/strconv.uint64pow10" .u64 pow10Tab) :
    Calls Tryd.prog 26 #[.int .i64 c] w fun e w' => e = .returned (.string ⟨(centsText c).toArray⟩) ∧ Below w.heap.size w w' := by
  by_cases hf : fitsB c = true
  · obtain ⟨h1, h2⟩ := fitsB_iff.1 hf
    by_cases hc : c < 0
    · rw [show centsText c = 45 :: bodyText c.natAbs by simp [centsText, hf, hc]]
      have := text_neg c.natAbs (by omega) (by omega) w htab
      rwa [show -(c.natAbs : Int) = c by omega] at this
    · rw [show centsText c = bodyText c.natAbs by simp [centsText, hf, hc]]
      have := text_pos c.natAbs (by omega) w htab
      rwa [show (c.natAbs : Int) = c by omega] at this
  · simp only [Bool.not_eq_true] at hf
    rw [show centsText c = [] by simp [centsText, hf]]
    go_enter Tryd.func26, Tryd.ntmps26
    go_wp2_with (first | (go_at_call 19; refine (fits_any _ _).mono ?_; rintro e w' ⟨rfl, rfl⟩))
    go_ret
    exact ⟨rfl, Below.refl _ _⟩

end Go.Proofs.YthdjpkpkkdnofaaDoor
