/-
  What is proved: the contracts of the document's own digits and Text of an amount. Conditions: the amount fits.
-/
import Derived.Test.YthdjpkpkkdnofaaDoorText
namespace Go.Proofs.YthdjpkpkkdnofaaDoor
open Go Go.RowKit Go.Sort Go.Lib Go.Proofs

/-- What is left to tell, ahead of what is told. -/
def Told (n m : Nat) (l : List UInt8) : Prop := (l = [] ∧ m = n) ∨ (l ≠ [] ∧ ((0 < m ∧ decDigits m ++ l = decDigits n) ∨ (m = 0 ∧ l = decDigits n)))

theorem dd_cons (m : Nat) : decDigits m = if m < 10 then [48 + UInt8.ofNat (m % 10)] else decDigits (m / 10) ++ [48 + UInt8.ofNat (m % 10)] := by
  rw [decDigits]
  by_cases h : m < 10
  · rw [dif_pos h, if_pos h, Nat.mod_eq_of_lt h, UInt8.ofNat_add]; rfl
  · rw [dif_neg h, if_neg h, UInt8.ofNat_add]; rfl
theorem told_step {n m : Nat} {l : List UInt8} (h : Told n m l) (hm : l ≠ [] → 0 < m) : Told n (m / 10) ((48 + UInt8.ofNat (m % 10)) :: l) := by
  right
  refine ⟨by simp, ?_⟩
  have key : (0 < m / 10 ∧ decDigits (m / 10) ++ ((48 + UInt8.ofNat (m % 10)) :: l) = decDigits m ++ l) ∨ (m / 10 = 0 ∧ (48 + UInt8.ofNat (m % 10)) :: l = decDigits m ++ l) := by
    rw [dd_cons m]
    by_cases h10 : m < 10
    · right; rw [if_pos h10]; exact ⟨by omega, rfl⟩
    · left; rw [if_neg h10]; exact ⟨by omega, by simp⟩
  rcases h with ⟨rfl, rfl⟩ | ⟨hl, ⟨_, he⟩ | ⟨h0, _⟩⟩
  · simpa using key
  · rw [he] at key; exact key
  · have := hm hl; omega
theorem told_len {n m : Nat} {l : List UInt8} (h : Told n m l) (hn : n ≤ 1125899906842624) : l.length ≤ 20 := by
  have hd := decDigits_len n (by omega)
  rcases h with ⟨rfl, _⟩ | ⟨_, ⟨_, he⟩ | ⟨_, rfl⟩⟩
  · simp
  · rw [← he, List.length_append] at hd; omega
  · exact hd
theorem told_end {n m : Nat} {l : List UInt8} (h : Told n m l) (hl : l ≠ []) (h0 : m = 0) : l = decDigits n := by
  rcases h with ⟨rfl, _⟩ | ⟨_, ⟨h1, _⟩ | ⟨_, rfl⟩⟩
  · exact absurd rfl hl
  · omega
  · rfl

theorem oneByte (W : World) (m : Nat) : (convert 62 9 (.slice (some ⟨W.heap.size, 0, none⟩) 1 1)).run Tryd.prog (W.alloc (.cells #[.int .u8 (48 + (m : Int) % 10)] 5)) = .ok (.string ⟨#[48 + UInt8.ofNat (m % 10)]⟩) (W.alloc (.cells #[.int .u8 (48 + (m : Int) % 10)] 5)) := by
  have h := run_convert_bytes_back (P := Tryd.prog) (W.alloc (.cells #[.int .u8 (48 + (m : Int) % 10)] 5)) 62 9 5 ⟨W.heap.size, 0, none⟩ 1 [48 + UInt8.ofNat (m % 10)] Tryd.underlying62 Tryd.underlying5 Tryd.underlying9 (fun j hj => by
    have h0 : j = 0 := by simpa using hj
    subst h0
    rw [addr_add, World.cell?_alloc_new]
    have e := ofNat_cell (m % 10) (by omega)
    simp only [List.getElem_cons_zero]
    rw [e]
    simp)
  exact h

set_option maxHeartbeats 1000000 in
set_option maxRecDepth 100000 in
theorem rdigits_nat (n : Nat) (hn : n ≤ 1125899906842624) (w : World) : Calls Tryd.prog 42 #[.int .i64 n] w fun e w' => e = .returned (.string ⟨(decDigits n).toArray⟩) ∧ Below w.heap.size w w' := by
  go_enter Tryd.func42, Tryd.ntmps42
  go_wp2
  go_loopw [0, 3] (fun a s wr => ∃ m : Nat, ∃ l : List UInt8, m ≤ n ∧ a = .int .i64 m ∧ s = .string ⟨l.toArray⟩ ∧ Hid (Told n m l) ∧ Below w.heap.size w wr) (fun a s _ => 2 * (RowKit.intOf a).toNat + (match s with | .string b => if b.size = 0 then 1 else 0 | _ => 0))
  case atStart => exact ⟨n, [], Nat.le_refl _, rfl, rfl, Lib.hid (.inl ⟨rfl, rfl⟩), Below.refl _ _⟩
  case round =>
    obtain ⟨m, l, hm, rfl, rfl, HT, hbw⟩ := hrel
    have hlen := told_len HT.out hn
    cases l with
    | nil =>
      have hcv := oneByte wr m
      have HN := Lib.hid (told_step HT.out (fun h => absurd rfl h))
      clear HT
      go_wp2
      refine ⟨⟨m / 10, [48 + UInt8.ofNat (m % 10)], by omega, by simp, rfl, HN, hbw.alloc hbw.size _⟩, ?_⟩
      have e : (ByteArray.mk #[48 + UInt8.ofNat (m % 10)] ++ ByteArray.mk #[]).size = 1 := rfl
      have e2 : (ByteArray.mk ([] : List UInt8).toArray).size = 0 := rfl
      simp only [e, e2, RowKit.intOf]
      simp
      omega
    | cons x r =>
      by_cases h0 : 0 < m
      · have hcv := oneByte wr m
        have HN := Lib.hid (told_step HT.out (fun _ => h0))
        clear HT
        have hl2 : ¬ 9223372036854775807 < 1 + (r.length + 1) := by simp at hlen; omega
        go_wp2
        refine ⟨⟨m / 10, (48 + UInt8.ofNat (m % 10)) :: x :: r, by omega, by simp, ?_, HN, hbw.alloc hbw.size _⟩, ?_⟩
        · exact congrArg Value.string (ByteArray.mk_append_mk [48 + UInt8.ofNat (m % 10)] (x :: r))
        · have e : (ByteArray.mk #[48 + UInt8.ofNat (m % 10)] ++ ByteArray.mk (x :: r).toArray).size = r.length + 2 := by
            rw [ByteArray.mk_append_mk [48 + UInt8.ofNat (m % 10)] (x :: r)]; rfl
          have e2 : (ByteArray.mk (x :: r).toArray).size = r.length + 1 := rfl
          simp only [e, e2, RowKit.intOf]
          simp
          omega
      · have HN := Lib.hid (told_end HT.out (by simp) (by omega))
        clear HT
        go_wp2
        go_ret
        refine ⟨?_, hbw⟩
        rw [← HN.out]; rfl

/-- digits, of a number told as Go has it. -/
theorem rdigits_any (z : Int) (h0 : 0 ≤ z) (hz : z ≤ 1125899906842624) (w : World) : Calls Tryd.prog 42 #[.int .i64 z] w fun e w' => e = .returned (.string ⟨(decDigits z.toNat).toArray⟩) ∧ Below w.heap.size w w' := by
  obtain ⟨n, rfl⟩ := Int.eq_ofNat_of_zero_le h0
  rw [Int.toNat_natCast]
  exact rdigits_nat n (by omega) w

theorem dd_small (m : Nat) (h : m < 10) : decDigits m = [48 + UInt8.ofNat m] := by rw [dd_cons, if_pos h, Nat.mod_eq_of_lt h]

set_option maxHeartbeats 1000000 in
set_option maxRecDepth 100000 in
theorem rtext_pos (n : Nat) (hn : n ≤ 1125899906842624) (w : World) : Calls Tryd.prog 28 #[.int .i64 n] w fun e w' => e = .returned (.string ⟨(bodyText n).toArray⟩) ∧ Below w.heap.size w w' := by
  have hn0 : ¬ ((n : Int) < 0) := by omega
  have hlen := decDigits_len (n / 100) (by omega)
  go_enter Tryd.func28, Tryd.ntmps28
  go_wp2_with fail
  refine (rdigits_any _ (by omega) (by omega) _).mono ?_
  rintro e w1 ⟨rfl, hb1⟩
  rw [show ((n : Int) / 100).toNat = n / 100 by omega]
  go_wp2_with fail
  refine (rdigits_any _ (by omega) (by omega) _).mono ?_
  rintro e w2 ⟨rfl, hb2⟩
  rw [show ((n : Int) / 10 % 10).toNat = n / 10 % 10 by omega, dd_small (n / 10 % 10) (by omega)]
  go_wp2_with fail
  refine (rdigits_any _ (by omega) (by omega) _).mono ?_
  rintro e w3 ⟨rfl, hb3⟩
  rw [show ((n : Int) % 10).toNat = n % 10 by omega, dd_small (n % 10) (by omega)]
  go_wp2
  go_ret
  refine ⟨?_, hb1.trans ((hb2.mono hb1.size).trans (hb3.mono (Nat.le_trans hb1.size hb2.size)))⟩
  show Ending.returned (.string (ByteArray.mk (decDigits (n / 100)).toArray ++ ByteArray.mk #[46] ++ ByteArray.mk #[48 + UInt8.ofNat (n / 10 % 10)] ++ ByteArray.mk #[48 + UInt8.ofNat (n % 10)])) = _
  rw [ByteArray.mk_append_mk (decDigits (n / 100)) [46], ByteArray.mk_append_mk _ [48 + UInt8.ofNat (n / 10 % 10)], ByteArray.mk_append_mk _ [48 + UInt8.ofNat (n % 10)]]
  simp [bodyText]

theorem bodyText_len (n : Nat) (hn : n ≤ 1125899906842624) : (bodyText n).length ≤ 23 := by
  have := decDigits_len (n / 100) (by omega)
  simp [bodyText]; omega

set_option maxHeartbeats 1000000 in
set_option maxRecDepth 100000 in
theorem rtext_neg (n : Nat) (h1 : 1 ≤ n) (hn : n ≤ 1125899906842624) (w : World) : Calls Tryd.prog 28 #[.int .i64 (-(n : Int))] w fun e w' => e = .returned (.string ⟨(45 :: bodyText n).toArray⟩) ∧ Below w.heap.size w w' := by
  have hn0 : -(n : Int) < 0 := by omega
  have hlen := bodyText_len n hn
  have H := Lib.hid (rtext_pos n hn w)
  go_enter Tryd.func28, Tryd.ntmps28
  go_wp2_with fail
  refine (H.out).mono ?_
  rintro e w1 ⟨rfl, hb1⟩
  go_wp2
  go_ret
  refine ⟨?_, hb1⟩
  show Ending.returned (.string (ByteArray.mk #[45] ++ ByteArray.mk (bodyText n).toArray)) = _
  rw [ByteArray.mk_append_mk [45] (bodyText n)]; rfl

/-- The document's text of an amount that fits. -/
theorem rtext_any (c : Int) (hf : fitsB c = true) (w : World) : Calls Tryd.prog 28 #[.int .i64 c] w fun e w' => e = .returned (.string ⟨(centsText c).toArray⟩) ∧ Below w.heap.size w w' := by
  obtain ⟨h1, h2⟩ := fitsB_iff.1 hf
  by_cases hc : c < 0
  · rw [show centsText c = 45 :: bodyText c.natAbs by simp [centsText, hf, hc]]
    have := rtext_neg c.natAbs (by omega) (by omega) w
    rwa [show -(c.natAbs : Int) = c by omega] at this
  · rw [show centsText c = bodyText c.natAbs by simp [centsText, hf, hc]]
    have := rtext_pos c.natAbs (by omega) w
    rwa [show (c.natAbs : Int) = c by omega] at this

end Go.Proofs.YthdjpkpkkdnofaaDoor
