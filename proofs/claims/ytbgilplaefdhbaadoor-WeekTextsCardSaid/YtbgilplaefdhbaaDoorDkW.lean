/-
  What is proved: the contracts of the document's own number and Text of a week. Conditions: numbers from 0 to 1440.
-/
import Derived.Test.YtbgilplaefdhbaaDoorDkV
import Derived.Test.YtbgilplaefdhbaaDoorDkQ
import Derived.Laws.IdiomStrings
import Derived.IntWalk
namespace Go.Proofs.YtbgilplaefdhbaaDoor
open Go Go.RowKit Go.Lib Go.Proofs
set_option linter.unusedVariables false
set_option linter.unusedSimpArgs false

/-- One byte in memory, as a text. -/
theorem byteAt (W : World) (g : Nat) (z : Int) (k : Nat) (hk : k < 10) (hz : z = 48 + (k : Int)) (hc : W.cell? ⟨g, 0, none⟩ = some (.int .u8 z)) : (convert 35 9 (.slice (some ⟨g, 0, none⟩) 1 1)).run Tryd.prog W = .ok (.string ⟨#[48 + UInt8.ofNat k]⟩) W := by
  subst hz
  exact run_convert_bytes_back (P := Tryd.prog) W 35 9 5 ⟨g, 0, none⟩ 1 [48 + UInt8.ofNat k] Tryd.underlying35 Tryd.underlying5 Tryd.underlying9 (fun j hj => by
    have h0 : j = 0 := by simpa using hj
    subst h0
    have e : (⟨g, 0, none⟩ : Addr).add 0 = ⟨g, 0, none⟩ := by unfold Addr.add; split <;> simp_all
    rw [e, hc]
    have e : (48 + UInt8.ofNat k).toNat = 48 + k := dig_toNat k hk
    simp only [List.getElem_cons_zero]
    rw [e]
    simp)
theorem byteNew (W : World) (z : Int) (k : Nat) (hk : k < 10) (hz : z = 48 + (k : Int)) : (convert 35 9 (.slice (some ⟨W.heap.size, 0, none⟩) 1 1)).run Tryd.prog (W.alloc (.cells #[.int .u8 z] 5)) = .ok (.string ⟨#[48 + UInt8.ofNat k]⟩) (W.alloc (.cells #[.int .u8 z] 5)) :=
  byteAt _ _ z k hk hz (by rw [World.cell?_alloc_new]; rfl)
/-- 1 for a text that is empty. -/
def emptyV : Value → Nat
  | .string s => if s.size = 0 then 1 else 0
  | _ => 0

set_option maxHeartbeats 2000000 in
set_option maxRecDepth 100000 in
theorem number_any (m : Nat) (hm : m ≤ 1440) (w : World) : Calls Tryd.prog 19 #[.int .i64 m] w fun e w' => e = .returned (.string ⟨(decDigits m).toArray⟩) ∧ Below w.heap.size w w' := by
  obtain ⟨R, hR⟩ : ∃ R : ByteArray, R = ⟨(decDigits m).toArray⟩ := ⟨_, rfl⟩
  have HR := Lib.hid hR
  have hdl := dd_len m (by omega)
  rw [← hR]
  clear hR
  go_enter Tryd.func19, Tryd.ntmps19
  go_wp2_with fail
  go_loopw [0, 3] (fun nv sv wr => ∃ (n : Nat) (s : ByteArray), nv = .int .i64 n ∧ sv = .string s ∧ Hid (NumI m n s.data.toList) ∧ Below w.heap.size w wr) (fun nv sv _ => (RowKit.intOf nv).toNat + emptyV sv)
  case atStart => exact ⟨m, ⟨#[]⟩, rfl, rfl, Lib.hid (.inl ⟨rfl, rfl⟩), Below.refl _ _⟩
  case round =>
    obtain ⟨n, s, rfl, rfl, HI, hb⟩ := hrel
    have hn := HI.out.le
    have hsz := HI.out.len
    have hs4 : s.size ≤ 4 := by have := size_len s; omega
    have q1 : (n : Int).tmod 10 = ((n % 10 : Nat) : Int) := by rw [Int.tmod_eq_emod_of_nonneg (by omega)]; omega
    have q2 : (n : Int).tdiv 10 = ((n / 10 : Nat) : Int) := by rw [Int.tdiv_eq_ediv_of_nonneg (by omega)]; omega
    have hst := fun hg => HI.out.step hg
    have hr9 : n % 10 < 10 := Nat.mod_lt _ (by omega)
    have hd9 : 0 < n → n / 10 < n := fun h => by omega
    have hd8 : n / 10 ≤ n := by omega
    generalize n % 10 = r at q1 hst hr9
    generalize n / 10 = d at q2 hst hd9 hd8
    have i1 : IntKind.i64.wrap (r : Int) = (r : Int) := IntWalk.i64_in _ (by omega)
    have i2 : IntKind.i64.wrap (d : Int) = (d : Int) := IntWalk.i64_in _ (by omega)
    have i3 : IntKind.i64.wrap (48 + (r : Int)) = 48 + (r : Int) := IntWalk.i64_in _ (by omega)
    have i4 : IntKind.u8.wrap (48 + (r : Int)) = 48 + (r : Int) := by rw [IntKind.wrap_u8]; omega
    have hcv := byteNew wr (48 + (r : Int)) r hr9 rfl
    have hl2 : ¬ 9223372036854775807 < 1 + s.size := by omega
    have hbn : Below w.heap.size w (wr.alloc (.cells #[.int .u8 (48 + (r : Int))] 5)) := hb.alloc hb.size _
    obtain ⟨z, hz⟩ : ∃ z : ByteArray, z = ⟨#[48 + UInt8.ofNat r]⟩ ++ s := ⟨_, rfl⟩
    have hzl : z.data.toList = (48 + UInt8.ofNat r) :: s.data.toList := by rw [hz, ByteArray.data_append, Array.toList_append]; rfl
    rw [← hzl] at hst
    have hze : emptyV (.string z) = 0 := by
      have := congrArg List.length hzl
      rw [size_len] at this
      simp at this
      show (if z.size = 0 then 1 else 0) = 0
      rw [if_neg (by omega)]
    by_cases hs : s.data.toList = []
    · have HN := Lib.hid (hst (.inl hs))
      have hE : s = ⟨#[]⟩ := by
        have : s.data = #[] := by rw [← Array.toList_inj]; exact hs
        cases s; cases this; rfl
      have hme : d + emptyV (.string z) < n + emptyV (.string s) := by
        rw [hE, hze]
        show d + 0 < n + 1
        omega
      subst hE
      clear hs hs4 hsz hst hzl hze
      go_wp2_with fail
      exact ⟨⟨d, z, rfl, by rw [hz], HN, hbn⟩, by simpa [RowKit.intOf, ← hz] using hme⟩
    · have hs1 : (s.toList == []) = false := by
        rw [ByteArray.toList_eq]; simpa using hs
      by_cases h0 : 0 < n
      · have HN := Lib.hid (hst (.inr h0))
        have hg : decide ((0 : Int) < (n : Int)) = true := by simp; omega
        have hg' : decide (0 < n) = true := by simp; omega
        have hme : d + emptyV (.string z) < n + emptyV (.string s) := by
          rw [hze]
          have := hd9 h0
          omega
        clear hs hsz hst hzl hze
        go_wp2_with fail
        exact ⟨⟨d, z, rfl, by rw [hz], HN, hbn⟩, by simpa [RowKit.intOf, ← hz] using hme⟩
      · have hg : decide ((0 : Int) < (n : Int)) = false := by simp; omega
        have hg' : decide (0 < n) = false := by simp; omega
        have hn0 : n = 0 := by omega
        subst hn0
        have hE : s = R := by
          have := HI.out.end hs (by omega)
          rw [HR.out, ← this]
        subst hE
        clear hs hcv hst hzl hz hze hbn
        go_wp2_with fail
        go_ret
        exact ⟨rfl, hb⟩

theorem txtK_add (q : Nat → Int) (k : Nat) (h : 0 < k) (h0 : 0 ≤ q k) : (⟨(txtK q k).toArray⟩ ++ ⟨#[32]⟩ ++ ⟨(decDigits (q k).toNat).toArray⟩ : ByteArray) = ⟨(txtK q (k + 1)).toArray⟩ := by
  have e1 : (⟨(txtK q k).toArray⟩ ++ ⟨#[32]⟩ : ByteArray) = ⟨(txtK q k ++ [32]).toArray⟩ := ByteArray.mk_append_mk _ [32]
  rw [e1, ByteArray.mk_append_mk]
  congr 2
  show _ = txtK q k ++ ((if 0 < k then [32] else []) ++ itoa (q k))
  rw [if_pos h, itoa_pos h0]
  simp

set_option maxHeartbeats 2000000 in
set_option maxRecDepth 100000 in
theorem rText_any (q : Nat → Int) (hq : ∀ j, j < 7 → 0 ≤ q j ∧ q j ≤ 1440) (w : World) : Calls Tryd.prog 9 #[.agg #[.int .i64 (q 0), .int .i64 (q 1), .int .i64 (q 2), .int .i64 (q 3), .int .i64 (q 4), .int .i64 (q 5), .int .i64 (q 6)]] w
    fun e w' => e = .returned (.string ⟨(txtK q 7).toArray⟩) ∧ Below w.heap.size w w' := by
  obtain ⟨R, hR⟩ : ∃ R : ByteArray, R = ⟨(txtK q 7).toArray⟩ := ⟨_, rfl⟩
  have HR := Lib.hid hR
  have HQ := Lib.hid hq
  have HL := Lib.hid (txtK_len hq)
  have HN := Lib.hid (fun k (hk : k < 7) W => (show Calls Tryd.prog 19 #[.int .i64 (q k)] W fun e w' => e = .returned (.string ⟨(decDigits (q k).toNat).toArray⟩) ∧ Below W.heap.size W w' from by
    have := number_any (q k).toNat (by have := hq k hk; omega) W
    rwa [show (((q k).toNat : Nat) : Int) = q k by have := hq k hk; omega] at this))
  rw [← hR]
  clear hR hq
  obtain ⟨W1, hW1⟩ : ∃ W1, W1 = w.alloc (.cells #[.int .i64 (q 0), .int .i64 (q 1), .int .i64 (q 2), .int .i64 (q 3), .int .i64 (q 4), .int .i64 (q 5), .int .i64 (q 6)] 22) := ⟨_, rfl⟩
  have hb0 : Below w.heap.size w W1 := by rw [hW1]; exact (Below.refl w.heap.size w).alloc (Nat.le_refl _) _
  have hx : ∀ k, k < 7 → W1.cell? ⟨w.heap.size, k, none⟩ = some (.int .i64 (q k)) := fun k hk => by rw [hW1]; exact box7 q w 22 k hk
  have HX := Lib.hid hx
  have x0 := hx 0 (by omega)
  clear hx
  go_enter Tryd.func9, Tryd.ntmps9
  go_wp2_with fail
  rw [← hW1]
  clear hW1
  refine (HN.out 0 (by omega) _).mono ?_
  rintro e w2 ⟨rfl, hb2⟩
  have hb3 := hb0.trans (hb2.mono hb0.size)
  clear x0
  go_wp2_with fail
  go_loopw [3, 4] (fun sv iv wr => ∃ (k : Nat) (s : ByteArray), 1 ≤ k ∧ k ≤ 7 ∧ iv = .int .i64 k ∧ sv = .string s ∧ Hid (s = ⟨(txtK q k).toArray⟩) ∧ Below W1.heap.size W1 wr) (fun _ iv _ => 7 - (RowKit.intOf iv).toNat)
  case atStart => exact ⟨1, _, by omega, by omega, rfl, rfl, Lib.hid (by unfold txtK txtK; rw [itoa_pos (HQ.out 0 (by omega)).1]; simp), hb2⟩
  case round =>
    obtain ⟨k, s, h1, h7, rfl, rfl, HS, hb⟩ := hrel
    have hs : s.size ≤ 35 := by
      have := HL.out k h7
      rw [HS.out]; show (txtK q k).toArray.size ≤ 35
      rw [List.size_toArray]; omega
    by_cases hlt : k < 7
    · have j1 : (k : Int) < 7 := by omega
      have j0 : (0 : Int) ≤ (k : Int) := by omega
      have xk := stay hb (HX.out k hlt)
      have HN' := Lib.hid (HN.out k hlt)
      have hdl := dd_len (q k).toNat (by have := HQ.out k hlt; omega)
      obtain ⟨d, hd⟩ : ∃ d : ByteArray, d = ⟨(decDigits (q k).toNat).toArray⟩ := ⟨_, rfl⟩
      have hds : d.size ≤ 4 := by rw [hd]; show (decDigits (q k).toNat).toArray.size ≤ 4; rw [List.size_toArray]; exact hdl
      rw [← hd] at HN'
      have HS' : Hid ((s ++ ⟨#[32]⟩ ++ d : ByteArray) = ⟨(txtK q (k + 1)).toArray⟩) := Lib.hid (by rw [HS.out, hd]; exact txtK_add q k (by omega) (HQ.out k hlt).1)
      have l1 : ¬ 9223372036854775807 < s.size + 1 := by omega
      have l2 : ¬ 9223372036854775807 < s.size + 1 + d.size := by omega
      have e1 : IntKind.i64.wrap ((k : Int) + 1) = (k : Int) + 1 := IntWalk.i64_in _ (by omega)
      clear hd hdl HS HN HR HL
      go_wp2_with fail
      refine (HN'.out _).mono ?_
      rintro e w4 ⟨rfl, hb4⟩
      go_wp2_with fail
      exact ⟨⟨k + 1, _, by omega, by omega, rfl, rfl, HS', hb.trans (hb4.mono hb.size)⟩, by simp [RowKit.intOf]; omega⟩
    · obtain rfl : k = 7 := by omega
      have hE : s = R := by rw [HR.out, HS.out]
      subst hE
      go_wp2_with fail
      go_ret
      exact ⟨rfl, hb0.trans (hb.mono hb0.size)⟩

end Go.Proofs.YtbgilplaefdhbaaDoor
