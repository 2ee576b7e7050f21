/-
  What is proved: the contracts of the document's own number and Text of an account. Conditions: numbers of 64 bits but the least one.
-/
import Derived.Test.YtpejdbnphjheeaaDoorLvQ
import Derived.Lib.Itoa
import Derived.Lib.ItoaNum
import Derived.Laws.IdiomStrings
import Derived.IntWalk
namespace Go.Proofs.YtpejdbnphjheeaaDoor
open Go Go.RowKit Go.Lib Go.Proofs Go.Proofs.YtpejdbnphjheeaaDoor.Cv
set_option linter.unusedVariables false
set_option linter.unusedSimpArgs false

theorem size_len (d : ByteArray) : d.data.toList.length = d.size := by rw [Array.length_toList]; rfl
theorem dd_cons (m : Nat) : decDigits m = if m < 10 then [48 + UInt8.ofNat (m % 10)] else decDigits (m / 10) ++ [48 + UInt8.ofNat (m % 10)] := by
  rw [decDigits]
  by_cases h : m < 10
  · rw [dif_pos h, if_pos h, Nat.mod_eq_of_lt h, UInt8.ofNat_add]; rfl
  · rw [dif_neg h, if_neg h, UInt8.ofNat_add]; rfl
theorem dig_toNat (k : Nat) (h : k < 10) : (48 + UInt8.ofNat k).toNat = 48 + k := by
  have : k = 0 ∨ k = 1 ∨ k = 2 ∨ k = 3 ∨ k = 4 ∨ k = 5 ∨ k = 6 ∨ k = 7 ∨ k = 8 ∨ k = 9 := by omega
  rcases this with rfl | rfl | rfl | rfl | rfl | rfl | rfl | rfl | rfl | rfl <;> rfl
/-- What digits say. -/
def valN (l : List UInt8) : Nat := l.foldl (fun n b => 10 * n + (b.toNat - 48)) 0
theorem valN_snoc (l : List UInt8) (b : UInt8) : valN (l ++ [b]) = 10 * valN l + (b.toNat - 48) := by
  unfold valN; rw [List.foldl_append]; rfl
theorem fold_ge : ∀ (l : List UInt8) (n : Nat), n ≤ l.foldl (fun n b => 10 * n + (b.toNat - 48)) n
  | [], n => Nat.le_refl _
  | b :: l, n => by
    have := fold_ge l (10 * n + (b.toNat - 48))
    simp only [List.foldl_cons]; omega
theorem dd_val (m : Nat) : valN (decDigits m) = m := by
  induction m using Nat.strongRecOn with
  | ind m ih =>
    rw [dd_cons]
    by_cases h : m < 10
    · rw [if_pos h, show [48 + UInt8.ofNat (m % 10)] = [] ++ [48 + UInt8.ofNat (m % 10)] from rfl, valN_snoc, dig_toNat _ (by omega)]
      show 10 * 0 + _ = m
      omega
    · rw [if_neg h, valN_snoc, ih _ (by omega), dig_toNat _ (by omega)]; omega
/-- What a number's text is behind some of its digits. -/
def NumI (m n : Nat) (s : List UInt8) : Prop := (s = [] ∧ n = m) ∨ (s ≠ [] ∧ ((n = 0 ∧ s = decDigits m) ∨ (0 < n ∧ decDigits n ++ s = decDigits m)))
theorem NumI.step {m n : Nat} {s : List UInt8} (h : NumI m n s) (hg : s = [] ∨ 0 < n) : NumI m (n / 10) ((48 + UInt8.ofNat (n % 10)) :: s) := by
  refine .inr ⟨by simp, ?_⟩
  have hd : decDigits n ++ s = decDigits m := by
    rcases h with ⟨rfl, rfl⟩ | ⟨h1, ⟨rfl, h2⟩ | ⟨h2, h3⟩⟩
    · simp
    · rcases hg with hg | hg
      · exact absurd hg h1
      · omega
    · exact h3
  by_cases h9 : n < 10
  · refine .inl ⟨by omega, ?_⟩
    rw [dd_cons n, if_pos h9] at hd
    simpa using hd
  · refine .inr ⟨by omega, ?_⟩
    rw [dd_cons n, if_neg h9] at hd
    simpa using hd
theorem NumI.end {m n : Nat} {s : List UInt8} (h : NumI m n s) (h1 : s ≠ []) (h2 : n = 0) : s = decDigits m := by
  rcases h with ⟨h, -⟩ | ⟨-, ⟨-, h⟩ | ⟨h, -⟩⟩
  · exact absurd h h1
  · exact h
  · omega
theorem NumI.len {m n : Nat} {s : List UInt8} (h : NumI m n s) : s.length ≤ (decDigits m).length := by
  rcases h with ⟨rfl, -⟩ | ⟨-, ⟨-, h⟩ | ⟨-, h⟩⟩
  · simp
  · rw [h]; exact Nat.le_refl _
  · rw [← h, List.length_append]; omega
theorem NumI.le {m n : Nat} {s : List UInt8} (h : NumI m n s) : n ≤ m := by
  rcases h with ⟨-, rfl⟩ | ⟨-, ⟨rfl, -⟩ | ⟨-, h⟩⟩
  · exact Nat.le_refl _
  · omega
  · have hv : valN (decDigits n ++ s) = m := by rw [h, dd_val]
    have h3 : valN (decDigits n) ≤ valN (decDigits n ++ s) := by
      unfold valN
      rw [List.foldl_append]
      exact fold_ge _ _
    rw [dd_val, hv] at h3
    exact h3
/-- One byte in memory, as a text. -/
theorem byteAt (W : World) (g : Nat) (z : Int) (k : Nat) (hk : k < 10) (hz : z = 48 + (k : Int)) (hc : W.cell? ⟨g, 0, none⟩ = some (.int .u8 z)) : (convert 66 9 (.slice (some ⟨g, 0, none⟩) 1 1)).run Tryd.prog W = .ok (.string ⟨#[48 + UInt8.ofNat k]⟩) W := by
  subst hz
  exact run_convert_bytes_back (P := Tryd.prog) W 66 9 5 ⟨g, 0, none⟩ 1 [48 + UInt8.ofNat k] Tryd.underlying66 Tryd.underlying5 Tryd.underlying9 (fun j hj => by
    have h0 : j = 0 := by simpa using hj
    subst h0
    have e : (⟨g, 0, none⟩ : Addr).add 0 = ⟨g, 0, none⟩ := by unfold Addr.add; split <;> simp_all
    rw [e, hc]
    have e : (48 + UInt8.ofNat k).toNat = 48 + k := dig_toNat k hk
    simp only [List.getElem_cons_zero]
    rw [e]
    simp)
theorem byteNew (W : World) (z : Int) (k : Nat) (hk : k < 10) (hz : z = 48 + (k : Int)) : (convert 66 9 (.slice (some ⟨W.heap.size, 0, none⟩) 1 1)).run Tryd.prog (W.alloc (.cells #[.int .u8 z] 5)) = .ok (.string ⟨#[48 + UInt8.ofNat k]⟩) (W.alloc (.cells #[.int .u8 z] 5)) :=
  byteAt _ _ z k hk hz (by rw [World.cell?_alloc_new]; rfl)
/-- 1 for a text that is empty. -/
def emptyV : Value → Nat
  | .string s => if s.size = 0 then 1 else 0
  | _ => 0

set_option maxHeartbeats 2000000 in
set_option maxRecDepth 100000 in
theorem number_pos (m : Nat) (hm : m ≤ 9223372036854775807) (w : World) : Calls Tryd.prog 28 #[.int .i64 m] w fun e w' => e = .returned (.string ⟨(decDigits m).toArray⟩) ∧ Below w.heap.size w w' := by
  obtain ⟨R, hR⟩ : ∃ R : ByteArray, R = ⟨(decDigits m).toArray⟩ := ⟨_, rfl⟩
  have HR := Lib.hid hR
  have hdl := dec_len 19 m (by exact Nat.lt_of_le_of_lt hm (by decide))
  rw [← hR]
  clear hR
  go_enter Tryd.func28, Tryd.ntmps28
  have h0m : ¬ (m : Int) < 0 := by omega
  go_wp2_with fail
  go_loopw [0, 3] (fun nv sv wr => ∃ (n : Nat) (s : ByteArray), nv = .int .i64 n ∧ sv = .string s ∧ Hid (NumI m n s.data.toList) ∧ Below w.heap.size w wr) (fun nv sv _ => (RowKit.intOf nv).toNat + emptyV sv)
  case atStart => exact ⟨m, ⟨#[]⟩, rfl, rfl, Lib.hid (.inl ⟨rfl, rfl⟩), Below.refl _ _⟩
  case round =>
    obtain ⟨n, s, rfl, rfl, HI, hb⟩ := hrel
    have hn := HI.out.le
    have hsz := HI.out.len
    have hs4 : s.size ≤ 20 := by have := size_len s; omega
    have q1 : (n : Int).tmod 10 = ((n % 10 : Nat) : Int) := by rw [Int.tmod_eq_emod_of_nonneg (by omega)]; omega
    have q2 : (n : Int).tdiv 10 = ((n / 10 : Nat) : Int) := by rw [Int.tdiv_eq_ediv_of_nonneg (by omega)]; omega
    have hst := fun hg => HI.out.step hg
    have hr9 : n % 10 < 10 := Nat.mod_lt _ (by omega)
    have hd9 : 0 < n → n / 10 < n := fun h => by omega
    have hd8 : n / 10 ≤ n := by omega
    generalize n % 10 = r at q1 hst hr9
    generalize n / 10 = d at q2 hst hd9 hd8
    have i1 : IntKind.i64.wrap (r : Int) = (r : Int) := IntWalk.i64_in _ (by omega)
    have i2 : IntKind.i64.wrap (d : Int) = (d : Int) := IntWalk.i64_in _ (by omega)
    have i3 : IntKind.i64.wrap (48 + (r : Int)) = 48 + (r : Int) := IntWalk.i64_in _ (by omega)
    have i4 : IntKind.u8.wrap (48 + (r : Int)) = 48 + (r : Int) := by rw [IntKind.wrap_u8]; omega
    have hcv := byteNew wr (48 + (r : Int)) r hr9 rfl
    have hl2 : ¬ 9223372036854775807 < 1 + s.size := by omega
    have hbn : Below w.heap.size w (wr.alloc (.cells #[.int .u8 (48 + (r : Int))] 5)) := hb.alloc hb.size _
    obtain ⟨z, hz⟩ : ∃ z : ByteArray, z = ⟨#[48 + UInt8.ofNat r]⟩ ++ s := ⟨_, rfl⟩
    have hzl : z.data.toList = (48 + UInt8.ofNat r) :: s.data.toList := by rw [hz, ByteArray.data_append, Array.toList_append]; rfl
    rw [← hzl] at hst
    have hze : emptyV (.string z) = 0 := by
      have := congrArg List.length hzl
      rw [size_len] at this
      simp at this
      show (if z.size = 0 then 1 else 0) = 0
      rw [if_neg (by omega)]
    by_cases hs : s.data.toList = []
    · have HN := Lib.hid (hst (.inl hs))
      have hE : s = ⟨#[]⟩ := by
        have : s.data = #[] := by rw [← Array.toList_inj]; exact hs
        cases s; cases this; rfl
      have hme : d + emptyV (.string z) < n + emptyV (.string s) := by
        rw [hE, hze]
        show d + 0 < n + 1
        omega
      subst hE
      clear hs hs4 hsz hst hzl hze
      go_wp2_with fail
      exact ⟨⟨d, z, rfl, by rw [hz], HN, hbn⟩, by simpa [RowKit.intOf, ← hz] using hme⟩
    · have hs1 : (s.toList == []) = false := by
        rw [ByteArray.toList_eq]; simpa using hs
      by_cases h0 : 0 < n
      · have HN := Lib.hid (hst (.inr h0))
        have hg : decide ((0 : Int) < (n : Int)) = true := by simp; omega
        have hg' : decide (0 < n) = true := by simp; omega
        have hme : d + emptyV (.string z) < n + emptyV (.string s) := by
          rw [hze]
          have := hd9 h0
          omega
        clear hs hsz hst hzl hze
        go_wp2_with fail
        exact ⟨⟨d, z, rfl, by rw [hz], HN, hbn⟩, by simpa [RowKit.intOf, ← hz] using hme⟩
      · have hg : decide ((0 : Int) < (n : Int)) = false := by simp; omega
        have hg' : decide (0 < n) = false := by simp; omega
        have hn0 : n = 0 := by omega
        subst hn0
        have hE : s = R := by
          have := HI.out.end hs (by omega)
          rw [HR.out, ← this]
        subst hE
        clear hs hcv hst hzl hz hze hbn
        go_wp2_with fail
        go_ret
        exact ⟨rfl, hb⟩


theorem far_any (n : Int) (w : World) : Calls Tryd.prog 15 #[.int .i64 n] w fun e w' => e = .returned (.bool (decide (n < -4611686018427387904))) ∧ w' = w := by
  go_enter Tryd.func15, Tryd.ntmps15
  go_wp2
  go_ret
  exact ⟨rfl, rfl⟩
/-- A number's text, as bytes. -/
def itB (n : Int) : ByteArray := ⟨(itoa n).toArray⟩
theorem itB_pos {n : Int} (h : 0 ≤ n) : itB n = ⟨(decDigits n.toNat).toArray⟩ := by
  unfold itB itoa; rw [if_neg (by omega)]
theorem itB_size {n : Int} (h0 : -9223372036854775808 ≤ n) (h1 : n ≤ 9223372036854775807) : (itB n).size ≤ 21 := by
  have := itoa_len h0 h1
  show (itoa n).toArray.size ≤ 21
  rw [List.size_toArray]; exact this
theorem number_any (n : Int) (h0 : -9223372036854775807 ≤ n) (h1 : n ≤ 9223372036854775807) (w : World) : Calls Tryd.prog 28 #[.int .i64 n] w fun e w' => e = .returned (.string (itB n)) ∧ Below w.heap.size w w' := by
  by_cases h : 0 ≤ n
  · have := number_pos n.toNat (by omega) w
    rw [show ((n.toNat : Nat) : Int) = n by omega] at this
    rw [itB_pos h]; exact this
  · have HP := Lib.hid (fun W => (show Calls Tryd.prog 28 #[.int .i64 (-n)] W fun e w' => e = .returned (.string (itB (-n))) ∧ Below W.heap.size W w' from by
      have := number_pos (-n).toNat (by omega) W
      rw [show (((-n).toNat : Nat) : Int) = -n by omega] at this
      rw [itB_pos (by omega)]; exact this))
    have hs := itB_size (n := -n) (by omega) (by omega)
    have HE : Hid ((⟨#[45]⟩ ++ itB (-n) : ByteArray) = itB n) := Lib.hid (by
      rw [itB_pos (by omega)]
      have e : itB n = ⟨((45 : UInt8) :: decDigits (-n).toNat).toArray⟩ := by
        unfold itB itoa; rw [if_pos (by omega), show n.natAbs = (-n).toNat by omega]
      rw [e]
      exact ByteArray.mk_append_mk [45] _)
    generalize itB (-n) = d at HP hs HE
    have l1 : ¬ 9223372036854775807 < 1 + d.size := by omega
    have hlt : n < 0 := by omega
    go_enter Tryd.func28, Tryd.ntmps28
    go_wp2_with fail
    refine (HP.out _).mono ?_
    rintro e w2 ⟨rfl, hb⟩
    go_wp2_with fail
    go_ret
    rw [← HE.out]
    exact ⟨rfl, hb⟩

theorem txt4 (q : Nat → Int) : (itB (q 0) ++ ⟨#[32]⟩ ++ itB (q 1) ++ ⟨#[32]⟩ ++ itB (q 2) ++ ⟨#[32]⟩ ++ itB (q 3) : ByteArray) = ⟨(txtK q 4).toArray⟩ := by
  have e : txtK q 4 = itoa (q 0) ++ [32] ++ itoa (q 1) ++ [32] ++ itoa (q 2) ++ [32] ++ itoa (q 3) := by simp [txtK]
  rw [e]
  unfold itB
  have m := fun (a b : List UInt8) => ByteArray.mk_append_mk a b
  have b32 : (⟨#[32]⟩ : ByteArray) = ⟨([32] : List UInt8).toArray⟩ := rfl
  rw [b32, m, m, m, m, m, m]

set_option maxHeartbeats 2000000 in
set_option maxRecDepth 100000 in
theorem rText_any (q : Nat → Int) (hq : ∀ j, j < 4 → -9223372036854775807 ≤ q j ∧ q j ≤ 9223372036854775807) (w : World) : Calls Tryd.prog 17 #[.agg #[.int .i64 (q 0), .int .i64 (q 1), .int .i64 (q 2), .int .i64 (q 3)]] w
    fun e w' => e = .returned (.string ⟨(txtK q 4).toArray⟩) ∧ Below w.heap.size w w' := by
  have HE := Lib.hid (txt4 q)
  have h0 := hq 0 (by omega)
  have h1 := hq 1 (by omega)
  have h2 := hq 2 (by omega)
  have h3 := hq 3 (by omega)
  have s0 := itB_size (n := q 0) (by omega) (by omega)
  have s1 := itB_size (n := q 1) (by omega) (by omega)
  have s2 := itB_size (n := q 2) (by omega) (by omega)
  have s3 := itB_size (n := q 3) (by omega) (by omega)
  have H0 := Lib.hid (fun W => number_any (q 0) h0.1 h0.2 W)
  have H1 := Lib.hid (fun W => number_any (q 1) h1.1 h1.2 W)
  have H2 := Lib.hid (fun W => number_any (q 2) h2.1 h2.2 W)
  have H3 := Lib.hid (fun W => number_any (q 3) h3.1 h3.2 W)
  obtain ⟨R, hR⟩ : ∃ R : ByteArray, R = ⟨(txtK q 4).toArray⟩ := ⟨_, rfl⟩
  rw [← hR] at HE ⊢
  clear hR
  generalize itB (q 0) = d0 at HE s0 H0
  generalize itB (q 1) = d1 at HE s1 H1
  generalize itB (q 2) = d2 at HE s2 H2
  generalize itB (q 3) = d3 at HE s3 H3
  generalize q 0 = a0 at H0 ⊢
  generalize q 1 = a1 at H1 ⊢
  generalize q 2 = a2 at H2 ⊢
  generalize q 3 = a3 at H3 ⊢
  clear h0 h1 h2 h3 hq
  obtain ⟨W1, hW1⟩ : ∃ W1, W1 = w.alloc (.cells #[.int .i64 a0, .int .i64 a1, .int .i64 a2, .int .i64 a3] 35) := ⟨_, rfl⟩
  have hb0 : Below w.heap.size w W1 := by rw [hW1]; exact (Below.refl w.heap.size w).alloc (Nat.le_refl _) _
  have c0 : W1.cell? ⟨w.heap.size, 0, none⟩ = some (.int .i64 a0) := by rw [hW1, World.cell?_alloc_new]; rfl
  have c1 : W1.cell? ⟨w.heap.size, 1, none⟩ = some (.int .i64 a1) := by rw [hW1, World.cell?_alloc_new]; rfl
  have c2 : W1.cell? ⟨w.heap.size, 2, none⟩ = some (.int .i64 a2) := by rw [hW1, World.cell?_alloc_new]; rfl
  have c3 : W1.cell? ⟨w.heap.size, 3, none⟩ = some (.int .i64 a3) := by rw [hW1, World.cell?_alloc_new]; rfl
  have k0 := fun p => cell_by c0 p
  have k1 := fun p => cell_by c1 p
  have k2 := fun p => cell_by c2 p
  have k3 := fun p => cell_by c3 p
  clear c0 c1 c2 c3
  have l1 : ¬ 9223372036854775807 < d0.size + 1 := by omega
  have l2 : ¬ 9223372036854775807 < d0.size + 1 + d1.size := by omega
  have l3 : ¬ 9223372036854775807 < d0.size + 1 + d1.size + 1 := by omega
  have l4 : ¬ 9223372036854775807 < d0.size + 1 + d1.size + 1 + d2.size := by omega
  have l5 : ¬ 9223372036854775807 < d0.size + 1 + d1.size + 1 + d2.size + 1 := by omega
  have l6 : ¬ 9223372036854775807 < d0.size + 1 + d1.size + 1 + d2.size + 1 + d3.size := by omega
  have mixed : Tryd.prog.follows .mixedOrders = true := by kernel_rfl
  go_enter Tryd.func17, Tryd.ntmps17
  go_wp2_with fail
  rw [← hW1]
  clear hW1
  refine wp_region_quiet_below (W0 := W1) mixed (by kernel_rfl) (Below.refl _ _) ?_
  repeat (quiet_step (first | (go_at_call_of 28 (Value.int .i64 a0); exact below_of (H0.out _)) | (go_at_call_of 28 (Value.int .i64 a1); exact below_of (H1.out _)) | (go_at_call_of 28 (Value.int .i64 a2); exact below_of (H2.out _)) | (go_at_call_of 28 (Value.int .i64 a3); exact below_of (H3.out _))))
  refine wpQuiet_nil ?_
  rintro _ ⟨p, rfl⟩
  go_wp2
  go_ret
  rw [← HE.out]
  exact ⟨rfl, hb0.trans (p.h.mono hb0.size)⟩

end Go.Proofs.YtpejdbnphjheeaaDoor
