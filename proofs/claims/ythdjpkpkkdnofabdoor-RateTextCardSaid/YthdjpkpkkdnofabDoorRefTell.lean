/-
  What is proved: the contracts of the document's own Right, Abs, tens and Text of a rate: its text is that of rate.Text. Conditions: none but the ranges that are said.
-/
import Derived.Test.YthdjpkpkkdnofabDoorRateTell
import Derived.Test.YthdjpkpkkdnofabDoorRateMath
namespace Go.Proofs.YthdjpkpkkdnofabDoor
open Go Go.RowKit Go.Sort Go.Lib Go.Proofs

theorem rright_any (c : Int) (w : World) : Calls Tryd.prog 14 #[.int .i64 c] w fun e w' => e = .returned (.bool (rightB c)) ∧ w = w' := by
  by_cases h1 : -1000000000 ≤ c
  · by_cases h2 : c ≤ 1000000000
    · rw [rightB_yes h1 h2]
      go_enter Tryd.func14, Tryd.ntmps14
      go_wp2
      go_ret
      exact ⟨rfl, rfl⟩
    · rw [rightB_no (by omega)]
      go_enter Tryd.func14, Tryd.ntmps14
      go_wp2
      go_ret
      exact ⟨rfl, rfl⟩
  · rw [rightB_no (by omega)]
    go_enter Tryd.func14, Tryd.ntmps14
    go_wp2
    go_ret
    exact ⟨rfl, rfl⟩

theorem abs_any (n : Int) (h1 : -9223372036854775808 ≤ n) (h2 : n ≤ 9223372036854775807) (w : World) : Calls Tryd.prog 28 #[.int .i64 n] w fun e w' => e = .returned (.int .u64 (n.natAbs : Int)) ∧ w = w' := by
  by_cases hn : n < 0
  · have hwr : IntKind.u64.wrap (-IntKind.u64.wrap n) = (n.natAbs : Int) := by rw [IntKind.wrap_u64, IntKind.wrap_u64]; omega
    go_enter Tryd.func28, Tryd.ntmps28
    go_wp2
    go_ret
    exact ⟨rfl, rfl⟩
  · have hwr : IntKind.u64.wrap n = (n.natAbs : Int) := by rw [IntKind.wrap_u64]; omega
    go_enter Tryd.func28, Tryd.ntmps28
    go_wp2
    go_ret
    exact ⟨rfl, rfl⟩

theorem addr_add (g j : Nat) : (⟨g, 0, none⟩ : Addr).add j = ⟨g, j, none⟩ := by unfold Addr.add; split <;> simp_all
theorem oneByte (W : World) (z : Int) (k : Nat) (hk : k < 10) (hz : z = 48 + (k : Int)) : (convert 68 9 (.slice (some ⟨W.heap.size, 0, none⟩) 1 1)).run Tryd.prog (W.alloc (.cells #[.int .u8 z] 5)) = .ok (.string ⟨#[48 + UInt8.ofNat k]⟩) (W.alloc (.cells #[.int .u8 z] 5)) := by
  subst hz
  have h := run_convert_bytes_back (P := Tryd.prog) (W.alloc (.cells #[.int .u8 (48 + (k : Int))] 5)) 68 9 5 ⟨W.heap.size, 0, none⟩ 1 [48 + UInt8.ofNat k] Tryd.underlying68 Tryd.underlying5 Tryd.underlying9 (fun j hj => by
    have h0 : j = 0 := by simpa using hj
    subst h0
    rw [addr_add, World.cell?_alloc_new]
    have e : (48 + UInt8.ofNat k).toNat = 48 + k := dig_toNat k hk
    simp only [List.getElem_cons_zero]
    rw [e]
    simp)
  exact h

set_option maxHeartbeats 1000000 in
set_option maxRecDepth 100000 in
theorem tens_nat (n : Nat) (hn : n ≤ 1125899906842624) (w : World) : Calls Tryd.prog 29 #[.int .u64 n] w fun e w' => e = .returned (.string ⟨(decDigits n).toArray⟩) ∧ Below w.heap.size w w' := by
  go_enter Tryd.func29, Tryd.ntmps29
  go_wp2
  go_loopw [0, 3] (fun a s wr => ∃ m : Nat, ∃ l : List UInt8, m ≤ n ∧ a = .int .u64 m ∧ s = .string ⟨l.toArray⟩ ∧ l.length ≤ 20 ∧ Hid (decDigits m ++ l = decDigits n) ∧ Below w.heap.size w wr) (fun a _ _ => (RowKit.intOf a).toNat)
  case atStart => exact ⟨n, [], Nat.le_refl _, rfl, rfl, by simp, Lib.hid (by simp), Below.refl _ _⟩
  case round =>
    obtain ⟨m, l, hm, rfl, rfl, hlen, HT, hbw⟩ := hrel
    by_cases h9 : 9 < m
    · have hcv := oneByte wr (48 + (m : Int) % 10) (m % 10) (by omega) (by omega)
      have HN : Hid (decDigits (m / 10) ++ ((48 + UInt8.ofNat (m % 10)) :: l) = decDigits n) := Lib.hid (by
        rw [← HT.out, dd_cons m, if_neg (by omega)]; simp)
      have hlen2 : ((48 + UInt8.ofNat (m % 10)) :: l).length ≤ 20 := by
        have := decDigits_len n (by omega)
        rw [← HN.out, List.length_append] at this
        omega
      have hl2 : ¬ 9223372036854775807 < 1 + l.length := by omega
      clear HT
      go_wp2
      refine ⟨⟨m / 10, (48 + UInt8.ofNat (m % 10)) :: l, by omega, by simp, ?_, hlen2, HN, hbw.alloc hbw.size _⟩, ?_⟩
      · exact congrArg Value.string (ByteArray.mk_append_mk [48 + UInt8.ofNat (m % 10)] l)
      · simp [RowKit.intOf]; omega
    · have hcv := oneByte wr (48 + (m : Int)) m (by omega) (by omega)
      have HN : Hid ((48 + UInt8.ofNat m) :: l = decDigits n) := Lib.hid (by
        rw [← HT.out, dd_cons m, if_pos (by omega), Nat.mod_eq_of_lt (by omega)]; rfl)
      have hl2 : ¬ 9223372036854775807 < 1 + l.length := by omega
      clear HT
      go_wp2
      go_ret
      refine ⟨?_, hbw.alloc hbw.size _⟩
      rw [← HN.out]
      exact congrArg (fun x => Ending.returned (.string x)) (ByteArray.mk_append_mk [48 + UInt8.ofNat m] l)

theorem tens_any (z : Int) (h0 : 0 ≤ z) (hz : z ≤ 1125899906842624) (w : World) : Calls Tryd.prog 29 #[.int .u64 z] w fun e w' => ∃ d : ByteArray, e = .returned (.string d) ∧ Hid (d.data.toList = decDigits z.toNat) ∧ 1 ≤ d.size ∧ d.size ≤ 20 ∧ Below w.heap.size w w' := by
  obtain ⟨n, rfl⟩ := Int.eq_ofNat_of_zero_le h0
  rw [Int.toNat_natCast]
  refine (tens_nat n (by omega) w).mono ?_
  rintro e w' ⟨rfl, hb⟩
  have hl := decDigits_len n (by omega)
  obtain ⟨a, r, e⟩ := dd_some n
  refine ⟨_, rfl, Lib.hid rfl, ?_, ?_, hb⟩
  · rw [← size_len]; show 1 ≤ (decDigits n).length; rw [e]; simp
  · rw [← size_len]; exact hl

set_option maxHeartbeats 2000000 in
set_option maxRecDepth 100000 in
theorem rtext2_any (r : Int) (w : World) : Calls Tryd.prog 13 #[.int .i64 r] w fun e w' => e = .returned (.string ⟨(rateText r).toArray⟩) ∧ Below w.heap.size w w' := by
  by_cases hf : rightB r = true
  case neg =>
    simp only [Bool.not_eq_true] at hf
    rw [show rateText r = [] by simp [rateText, hf]]
    go_enter Tryd.func13, Tryd.ntmps13
    go_wp2_with fail
    refine (rright_any _ _).mono ?_
    rintro e w' ⟨rfl, rfl⟩
    go_wp2
    go_ret
    exact ⟨rfl, Below.refl _ _⟩
  obtain ⟨h1, h2⟩ := rightB_iff.1 hf
  obtain ⟨n, hn⟩ : ∃ n, n = r.natAbs := ⟨_, rfl⟩
  have hn9 : n ≤ 1000000000 := by omega
  have HA := abs_any r (by omega) (by omega)
  rw [← hn] at HA
  have H1 := Lib.hid HA
  obtain ⟨R, hR⟩ : ∃ R, R = rateText r := ⟨_, rfl⟩
  rw [← hR]
  have HR : Hid (R = (if r < 0 then [45] else []) ++ (decDigits (n / 10000) ++ fracText (n % 10000) ++ [37])) := Lib.hid (by
    rw [hR]; unfold rateText; rw [if_pos hf, ← hn]; unfold rateBody
    split <;> simp)
  clear HA hR hn
  go_enter Tryd.func13, Tryd.ntmps13
  go_wp2_with fail
  refine (rright_any _ _).mono ?_
  rintro e w' ⟨rfl, rfl⟩
  go_wp2_with fail
  refine (H1.out _).mono ?_
  rintro e w' ⟨rfl, rfl⟩
  go_wp2_with fail
  refine (tens_any _ (by omega) (by omega) _).mono ?_
  rintro e w1 ⟨d, rfl, hd, hd1, hd2, hb1⟩
  clear H1 h1 h2 hf
  by_cases hneg : r < 0
  · have HS : Hid (R = 45 :: (d.data.toList ++ fracText (n % 10000) ++ [37])) := Lib.hid (by
      rw [HR.out, hd.out, if_pos hneg, show ((n : Int) / 10000).toNat = n / 10000 by omega]; rfl)
    clear HR hd
    by_cases hz : n % 10000 = 0
    · have hz2 : (n : Int) % 10000 = 0 := by omega
      go_wp2
      go_ret
      refine ⟨?_, hb1⟩
      refine congrArg (fun x => Ending.returned (.string x)) (ba_eq ?_)
      rw [ba_app, ba_app, HS.out, hz, frac_zero]
      simp
    · go_wp2_with fail
      refine (tens_any _ (by omega) (by omega) _).mono ?_
      rintro e w2 ⟨d2, rfl, hd3, hd4, hd5, hb2⟩
      have hb12 := hb1.trans (hb2.mono hb1.size)
      have hd4' : (1 : Int) ≤ (d2.size : Int) := by omega
      obtain ⟨f, hf3⟩ : ∃ f, d2.extract 1 d2.size = f := ⟨_, rfl⟩
      have hfl : f.data.toList = (decDigits (10000 + n % 10000)).drop 1 := by rw [← hf3, Lib.extract_to_end, hd3.out, show (10000 + (n : Int) % 10000).toNat = 10000 + n % 10000 by omega]
      have hfs : f.size ≤ 20 := by rw [← hf3, ← size_len, Lib.extract_to_end, List.length_drop, size_len]; omega
      obtain ⟨T, hT⟩ : ∃ T, T = trimRightB f.data.toList 48 := ⟨_, rfl⟩
      have hTne : T ≠ [] := by rw [hT, hfl]; exact trim_ne (by omega) (by omega)
      have HS2 : Hid (R = 45 :: (d.data.toList ++ 46 :: T ++ [37])) := Lib.hid (by
        rw [HS.out, hT, hfl, frac_some hz])
      have HTN := Lib.hid hTne
      have HT := Lib.hid hT
      clear hfl HS hT hTne hd3
      go_wp2
      go_loop [6] (fun dv => ∃ t : ByteArray, dv = .string t ∧ t.size ≤ 20 ∧ Hid (trimRightB t.data.toList 48 = T)) (fun dv => match dv with | .string b => b.size | _ => 0)
      case atStart => exact ⟨f, rfl, hfs, Lib.hid HT.out.symm⟩
      case round =>
        obtain ⟨t, rfl, hts, HI⟩ := hrel
        obtain ⟨p, hp⟩ : ∃ p, t.size = p + 1 := trim_pos HTN.out HI.out
        by_cases hlast : t[p].toNat = 48
        · have hlb : ((t[p].toNat : Int) == 48) = true := by rw [hlast]; rfl
          have HN : Hid (trimRightB (t.extract 0 p).data.toList 48 = T) := Lib.hid (by rw [← HI.out]; exact trim_step hp hlast)
          have hes : (t.extract 0 p).size = p := by rw [ByteArray.size_extract]; omega
          have c1 : (p : Int) + 1 - 1 = (p : Int) := by omega
          go_wp2
          go_round
          case rel => exact ⟨t.extract 0 p, by simp, by omega, HN⟩
          case measure => simp [hp]
        · have hlb : ((t[p].toNat : Int) == 48) = false := beq_eq_false_iff_ne.2 (by omega)
          have HN : Hid (t.data.toList = T) := Lib.hid (by rw [← HI.out]; exact (trim_stay hp hlast).symm)
          go_wp2
          go_ret
          refine ⟨?_, hb12⟩
          refine congrArg (fun x => Ending.returned (.string x)) (ba_eq ?_)
          rw [ba_app, ba_app, ba_app, ba_app, HS2.out, ← HN.out]
          simp
  · have HS : Hid (R = d.data.toList ++ fracText (n % 10000) ++ [37]) := Lib.hid (by
      rw [HR.out, hd.out, if_neg hneg, show ((n : Int) / 10000).toNat = n / 10000 by omega]; rfl)
    clear HR hd
    by_cases hz : n % 10000 = 0
    · have hz2 : (n : Int) % 10000 = 0 := by omega
      go_wp2
      go_ret
      refine ⟨?_, hb1⟩
      refine congrArg (fun x => Ending.returned (.string x)) (ba_eq ?_)
      rw [ba_app, HS.out, hz, frac_zero]
      simp
    · go_wp2_with fail
      refine (tens_any _ (by omega) (by omega) _).mono ?_
      rintro e w2 ⟨d2, rfl, hd3, hd4, hd5, hb2⟩
      have hb12 := hb1.trans (hb2.mono hb1.size)
      have hd4' : (1 : Int) ≤ (d2.size : Int) := by omega
      obtain ⟨f, hf3⟩ : ∃ f, d2.extract 1 d2.size = f := ⟨_, rfl⟩
      have hfl : f.data.toList = (decDigits (10000 + n % 10000)).drop 1 := by rw [← hf3, Lib.extract_to_end, hd3.out, show (10000 + (n : Int) % 10000).toNat = 10000 + n % 10000 by omega]
      have hfs : f.size ≤ 20 := by rw [← hf3, ← size_len, Lib.extract_to_end, List.length_drop, size_len]; omega
      obtain ⟨T, hT⟩ : ∃ T, T = trimRightB f.data.toList 48 := ⟨_, rfl⟩
      have hTne : T ≠ [] := by rw [hT, hfl]; exact trim_ne (by omega) (by omega)
      have HS2 : Hid (R = d.data.toList ++ 46 :: T ++ [37]) := Lib.hid (by
        rw [HS.out, hT, hfl, frac_some hz])
      have HTN := Lib.hid hTne
      have HT := Lib.hid hT
      clear hfl HS hT hTne hd3
      go_wp2
      go_loop [6] (fun dv => ∃ t : ByteArray, dv = .string t ∧ t.size ≤ 20 ∧ Hid (trimRightB t.data.toList 48 = T)) (fun dv => match dv with | .string b => b.size | _ => 0)
      case atStart => exact ⟨f, rfl, hfs, Lib.hid HT.out.symm⟩
      case round =>
        obtain ⟨t, rfl, hts, HI⟩ := hrel
        obtain ⟨p, hp⟩ : ∃ p, t.size = p + 1 := trim_pos HTN.out HI.out
        by_cases hlast : t[p].toNat = 48
        · have hlb : ((t[p].toNat : Int) == 48) = true := by rw [hlast]; rfl
          have HN : Hid (trimRightB (t.extract 0 p).data.toList 48 = T) := Lib.hid (by rw [← HI.out]; exact trim_step hp hlast)
          have hes : (t.extract 0 p).size = p := by rw [ByteArray.size_extract]; omega
          have c1 : (p : Int) + 1 - 1 = (p : Int) := by omega
          go_wp2
          go_round
          case rel => exact ⟨t.extract 0 p, by simp, by omega, HN⟩
          case measure => simp [hp]
        · have hlb : ((t[p].toNat : Int) == 48) = false := beq_eq_false_iff_ne.2 (by omega)
          have HN : Hid (t.data.toList = T) := Lib.hid (by rw [← HI.out]; exact (trim_stay hp hlast).symm)
          go_wp2
          go_ret
          refine ⟨?_, hb12⟩
          refine congrArg (fun x => Ending.returned (.string x)) (ba_eq ?_)
          rw [ba_app, ba_app, ba_app, HS2.out, ← HN.out]
          simp

end Go.Proofs.YthdjpkpkkdnofabDoor
