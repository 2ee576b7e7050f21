/-
  What is proved: the contracts of the document's own digits and Text of a period: its text is that of period.Text. Conditions: the numbers lie within 2^50 of 0.
-/
import Derived.Test.YtmejkpkejohmaaaDoorPdT
import Derived.Laws.IdiomStrings
import Derived.Deep.RegionWith
import Derived.IntWalk
namespace Go.Proofs.YtmejkpkejohmaaaDoor
open Go Go.RowKit Go.Proofs
set_option linter.unusedVariables false

theorem dd_cons (m : Nat) : Lib.decDigits m = if m < 10 then [48 + UInt8.ofNat (m % 10)] else Lib.decDigits (m / 10) ++ [48 + UInt8.ofNat (m % 10)] := by
  rw [Lib.decDigits]
  by_cases h : m < 10
  · rw [dif_pos h, if_pos h, Nat.mod_eq_of_lt h, UInt8.ofNat_add]; rfl
  · rw [dif_neg h, if_neg h, UInt8.ofNat_add]; rfl
theorem dig_toNat (k : Nat) (h : k < 10) : (48 + UInt8.ofNat k).toNat = 48 + k := by
  have : k = 0 ∨ k = 1 ∨ k = 2 ∨ k = 3 ∨ k = 4 ∨ k = 5 ∨ k = 6 ∨ k = 7 ∨ k = 8 ∨ k = 9 := by omega
  rcases this with rfl | rfl | rfl | rfl | rfl | rfl | rfl | rfl | rfl | rfl <;> rfl
/-- One byte in memory, as a text. -/
theorem byteAt (W : World) (g : Nat) (z : Int) (k : Nat) (hk : k < 10) (hz : z = 48 + (k : Int)) (hc : W.cell? ⟨g, 0, none⟩ = some (.int .u8 z)) : (convert 79 9 (.slice (some ⟨g, 0, none⟩) 1 1)).run Tryd.prog W = .ok (.string ⟨#[48 + UInt8.ofNat k]⟩) W := by
  subst hz
  exact run_convert_bytes_back (P := Tryd.prog) W 79 9 5 ⟨g, 0, none⟩ 1 [48 + UInt8.ofNat k] Tryd.underlying79 Tryd.underlying5 Tryd.underlying9 (fun j hj => by
    have h0 : j = 0 := by simpa using hj
    subst h0
    have e : (⟨g, 0, none⟩ : Addr).add 0 = ⟨g, 0, none⟩ := by unfold Addr.add; split <;> simp_all
    rw [e, hc]
    have e : (48 + UInt8.ofNat k).toNat = 48 + k := dig_toNat k hk
    simp only [List.getElem_cons_zero]
    rw [e]
    simp)
theorem byteNew (W : World) (z : Int) (k : Nat) (hk : k < 10) (hz : z = 48 + (k : Int)) : (convert 79 9 (.slice (some ⟨W.heap.size, 0, none⟩) 1 1)).run Tryd.prog (W.alloc (.cells #[.int .u8 z] 5)) = .ok (.string ⟨#[48 + UInt8.ofNat k]⟩) (W.alloc (.cells #[.int .u8 z] 5)) :=
  byteAt _ _ z k hk hz (by rw [World.cell?_alloc_new]; rfl)

def DigPost (n : Int) (w : World) (e : Ending) (w' : World) : Prop := ∃ d : ByteArray, e = .returned (.string d) ∧ Hid (d = ⟨(Lib.decDigits n.toNat).toArray⟩) ∧ d.size ≤ 16 ∧ Below w.heap.size w w'
theorem dec_size {n : Int} (h : n ≤ 1125899906842624) : (⟨(Lib.decDigits n.toNat).toArray⟩ : ByteArray).size ≤ 16 := by
  have := dec_len 15 n.toNat (by have : n.toNat ≤ 1125899906842624 := by omega
                                 exact Nat.lt_of_le_of_lt this (by decide))
  show (Lib.decDigits n.toNat).toArray.size ≤ 16
  rw [List.size_toArray]; omega
theorem dec_more {n : Int} (h : 10 ≤ n) : (⟨(Lib.decDigits (n / 10).toNat).toArray⟩ : ByteArray) ++ ⟨#[48 + UInt8.ofNat (n % 10).toNat]⟩ = ⟨(Lib.decDigits n.toNat).toArray⟩ := by
  rw [dd_cons n.toNat, if_neg (by omega), show n.toNat / 10 = (n / 10).toNat by omega, show n.toNat % 10 = (n % 10).toNat by omega]
  exact ByteArray.mk_append_mk _ [48 + UInt8.ofNat (n % 10).toNat]
theorem dec_one {n : Int} (h0 : 0 ≤ n) (h : n < 10) : (⟨#[48 + UInt8.ofNat n.toNat]⟩ : ByteArray) = ⟨(Lib.decDigits n.toNat).toArray⟩ := by
  rw [dd_cons n.toNat, if_pos (by omega), Nat.mod_eq_of_lt (by omega)]

set_option maxHeartbeats 1000000 in
set_option maxRecDepth 100000 in
theorem digits_pos (k : Nat) : ∀ (n : Int) (w : World), n ≤ k → 0 ≤ n → n ≤ 1125899906842624 → Calls Tryd.prog 37 #[.int .i64 n] w (DigPost n w) := by
  induction k with
  | zero =>
    intro n w hk h0 h1
    obtain rfl : n = 0 := by omega
    have hcv := byteNew w 48 0 (by omega) (by omega)
    go_enter Tryd.func37, Tryd.ntmps37
    go_wp2_with fail
    go_ret
    exact ⟨_, rfl, Lib.hid (dec_one (n := 0) (by omega) (by omega)), by decide, (Below.refl _ _).alloc (Nat.le_refl _) _⟩
  | succ k ih =>
    intro n w hk h0 h1
    have hn0 : ¬ n < 0 := by omega
    by_cases h9 : n < 10
    · have hcv := byteNew w (48 + n) n.toNat (by omega) (by omega)
      have HD := Lib.hid (dec_one h0 h9)
      have hz := dec_size h1
      clear hk ih
      go_enter Tryd.func37, Tryd.ntmps37
      go_wp2_with fail
      go_ret
      exact ⟨_, rfl, HD, by rw [HD.out]; exact hz, (Below.refl _ _).alloc (Nat.le_refl _) _⟩
    · have h10 : ¬ n < 10 := h9
      have HD := Lib.hid (dec_more (n := n) (by omega))
      have hz := dec_size h1
      have HI := Lib.hid (fun W => ih (n / 10) W (by omega) (by omega) (by omega))
      have q1 : n.tdiv 10 = n / 10 := by rw [Int.tdiv_eq_ediv_of_nonneg h0]
      have q2 : n.tmod 10 = n % 10 := by rw [Int.tmod_eq_emod_of_nonneg h0]
      have b1 : 0 ≤ n % 10 := by omega
      have b2 : n % 10 < 10 := by omega
      have i1 : IntKind.i64.wrap (n / 10) = n / 10 := IntWalk.i64_in _ (by omega)
      have i2 : IntKind.i64.wrap (n % 10) = n % 10 := IntWalk.i64_in _ (by omega)
      have i3 : IntKind.i64.wrap (48 + n % 10) = 48 + n % 10 := IntWalk.i64_in _ (by omega)
      have i4 : IntKind.u8.wrap (48 + n % 10) = 48 + n % 10 := by rw [IntKind.wrap_u8]; omega
      have H0 : Hid (∀ W g, W.cell? ⟨g, 0, none⟩ = some (.int .u8 (48 + n % 10)) → (convert 79 9 (.slice (some ⟨g, 0, none⟩) 1 1)).run Tryd.prog W = .ok (.string ⟨#[48 + UInt8.ofNat (n % 10).toNat]⟩) W) := Lib.hid (fun W g h => byteAt W g _ (n % 10).toNat (by omega) (by omega) h)
      clear hk ih h9
      go_enter Tryd.func37, Tryd.ntmps37
      have c0 : (w.alloc (.cells #[.int .u8 (48 + n % 10)] 5)).drew.cell? ⟨w.heap.size, 0, none⟩ = some (.int .u8 (48 + n % 10)) := World.cell?_alloc_new (w := w) _ _ 0
      have k0 := H0.out _ _ c0
      go_wp2_with fail
      go_region_with (first | (go_at_call 37; refine (HI.out _).mono ?_; rintro e w' ⟨d, rfl, hd, hds, hb⟩; have hl2 : ¬ 9223372036854775807 < d.size + 1 := (by omega); first | (have hx := H0.out _ _ (stay hb c0)) | (have hx := H0.out (w'.alloc (.cells #[.int .u8 (48 + n % 10)] 5)) w'.heap.size (World.cell?_alloc_new (w := w') _ _ 0))))
      all_goals
        go_wp2
        go_ret
        refine ⟨_, rfl, Lib.hid (by rw [hd.out]; exact HD.out), ?_, ?_⟩
        · rw [hd.out, HD.out]; exact hz
        · first
          | exact ((Below.refl _ _).drew.trans hb).alloc hb.size _
          | exact ((Below.refl _ _).alloc (Nat.le_refl _) _).drew.trans (hb.mono (by simp))
          | exact ((Below.refl _ _).alloc (Nat.le_refl _) _).drew
theorem digits_any (n : Int) (w : World) (h0 : -1125899906842624 ≤ n) (h1 : n ≤ 1125899906842624) : Calls Tryd.prog 37 #[.int .i64 n] w fun e w' => e = .returned (.string ⟨(Lib.itoa n).toArray⟩) ∧ Below w.heap.size w w' := by
  by_cases hn : n < 0
  · have HI := Lib.hid (digits_pos (-n).toNat (-n) w (by omega) (by omega) (by omega))
    have HR : Hid (⟨#[45]⟩ ++ ⟨(Lib.decDigits (-n).toNat).toArray⟩ = (⟨(Lib.itoa n).toArray⟩ : ByteArray)) := Lib.hid (by
      unfold Lib.itoa
      rw [if_pos hn, show n.natAbs = (-n).toNat by omega]
      exact ByteArray.mk_append_mk [45] _)
    obtain ⟨R, hR⟩ : ∃ R : ByteArray, R = ⟨(Lib.itoa n).toArray⟩ := ⟨_, rfl⟩
    rw [← hR] at HR ⊢
    have i1 : IntKind.i64.wrap (-n) = -n := IntWalk.i64_in _ (by omega)
    clear hR
    go_enter Tryd.func37, Tryd.ntmps37
    go_wp2_with fail
    refine (HI.out).mono ?_
    rintro e w' ⟨d, rfl, hd, hds, hb⟩
    have hl2 : ¬ 9223372036854775807 < 1 + d.size := by omega
    go_wp2
    go_ret
    exact ⟨by rw [hd.out, ← HR.out]; rfl, hb⟩
  · refine (digits_pos n.toNat n w (by omega) (by omega) h1).mono ?_
    rintro e w' ⟨d, rfl, hd, hds, hb⟩
    refine ⟨?_, hb⟩
    unfold Lib.itoa
    rw [if_neg hn, hd.out]
set_option maxHeartbeats 1000000 in
set_option maxRecDepth 100000 in
theorem rText_any (y i n a b p : Int) (w : World) (y0 : -1125899906842624 ≤ y) (y1 : y ≤ 1125899906842624) (i0 : -1125899906842624 ≤ i) (i1 : i ≤ 1125899906842624) :
    Calls Tryd.prog 24 #[.agg #[.int .i64 y, .int .i64 i, .int .i64 n, .int .i64 a, .int .i64 b, .int .i64 p]] w fun e w' => e = .returned (.string (txtB y i)) ∧ Below w.heap.size w w' := by
  obtain ⟨W1, hW1⟩ : ∃ W1, W1 = w.alloc (.cells #[.int .i64 y, .int .i64 i, .int .i64 n, .int .i64 a, .int .i64 b, .int .i64 p] 48) := ⟨_, rfl⟩
  have hb0 : Below w.heap.size w W1 := by rw [hW1]; exact (Below.refl w.heap.size w).alloc (Nat.le_refl _) _
  have x0 : W1.cell? ⟨w.heap.size, 0, none⟩ = some (.int .i64 y) := by rw [hW1, World.cell?_alloc_new]; rfl
  have x1 : W1.cell? ⟨w.heap.size, 1, none⟩ = some (.int .i64 i) := by rw [hW1, World.cell?_alloc_new]; rfl
  have H1 := Lib.hid (digits_any y W1 y0 y1)
  have H2 := Lib.hid (fun W => digits_any i W i0 i1)
  obtain ⟨R, hR⟩ : ∃ R, R = txtB y i := ⟨_, rfl⟩
  have HR := Lib.hid hR
  rw [← hR]
  unfold txtB at HR
  have hA := itoa_len (n := y) (by omega) (by omega)
  have hB := itoa_len (n := i) (by omega) (by omega)
  clear hR y0 y1 i0 i1
  generalize (⟨(Lib.itoa y).toArray⟩ : ByteArray) = A at *
  generalize (⟨(Lib.itoa i).toArray⟩ : ByteArray) = B at *
  by_cases h : 0 ≤ i ∧ i ≤ 9
  · have HR2 : Hid (R = A ++ ⟨#[47]⟩ ++ ⟨#[48]⟩ ++ B) := Lib.hid (by rw [HR.out, if_pos h])
    obtain ⟨h2, h3⟩ := h
    clear HR
    go_enter Tryd.func24, Tryd.ntmps24
    go_wp2_with fail
    rw [← hW1]
    clear hW1
    refine (H1.out).mono ?_
    rintro e w2 ⟨rfl, hb2⟩
    have z1 := stay hb2 x1
    have hb3 := hb0.trans (hb2.mono hb0.size)
    clear x0 x1
    go_wp2_with fail
    refine (H2.out _).mono ?_
    rintro e w4 ⟨rfl, hb4⟩
    have hb5 := hb3.trans (hb4.mono hb3.size)
    go_wp2
    go_ret
    exact ⟨by rw [HR2.out]; rfl, hb5⟩
  · have HR2 : Hid (R = A ++ ⟨#[47]⟩ ++ B) := Lib.hid (by rw [HR.out, if_neg h])
    clear HR
    rcases Int.lt_or_le i 0 with h2 | h2
    · have h3 : ¬ 0 ≤ i := by omega
      clear h
      go_enter Tryd.func24, Tryd.ntmps24
      go_wp2_with fail
      rw [← hW1]
      clear hW1
      refine (H1.out).mono ?_
      rintro e w2 ⟨rfl, hb2⟩
      have z1 := stay hb2 x1
      have hb3 := hb0.trans (hb2.mono hb0.size)
      clear x0 x1
      go_wp2_with fail
      refine (H2.out _).mono ?_
      rintro e w4 ⟨rfl, hb4⟩
      have hb5 := hb3.trans (hb4.mono hb3.size)
      go_wp2
      go_ret
      exact ⟨by rw [HR2.out]; rfl, hb5⟩
    · have h3 : ¬ i ≤ 9 := by omega
      clear h
      go_enter Tryd.func24, Tryd.ntmps24
      go_wp2_with fail
      rw [← hW1]
      clear hW1
      refine (H1.out).mono ?_
      rintro e w2 ⟨rfl, hb2⟩
      have z1 := stay hb2 x1
      have hb3 := hb0.trans (hb2.mono hb0.size)
      clear x0 x1
      go_wp2_with fail
      refine (H2.out _).mono ?_
      rintro e w4 ⟨rfl, hb4⟩
      have hb5 := hb3.trans (hb4.mono hb3.size)
      go_wp2
      go_ret
      exact ⟨by rw [HR2.out]; rfl, hb5⟩

end Go.Proofs.YtmejkpkejohmaaaDoor
