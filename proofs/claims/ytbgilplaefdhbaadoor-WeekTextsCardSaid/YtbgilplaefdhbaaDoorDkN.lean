/-
  What is proved: the contracts of word.isDigit, isDigits and Number at 1440. Conditions: texts of at most 5000 bytes; the variable ErrRange holds an error.
-/
import Derived.Test.YtbgilplaefdhbaaDoorDkI
import Derived.Test.YtbgilplaefdhbaaDoorDkM
import Derived.Test.YtbgilplaefdhbaaDoorShelf
import Derived.Lib.AtoiErrMem
import Derived.Lib.Walk
import Derived.BigCall
import Derived.LoopTactic
namespace Go.Proofs.YtbgilplaefdhbaaDoor
open Go Go.RowKit Go.Lib Go.Proofs
set_option linter.unusedVariables false

theorem isDigit_any (b : UInt8) (w : World) : Calls Tryd.prog 38 #[.int .u8 (b.toNat : Int)] w fun e w' => e = .returned (.bool (isDg b)) ∧ w = w' := by
  have hb := b.toNat_lt
  by_cases h1 : 48 ≤ b.toNat
  · have i1 : (48 : Int) ≤ (b.toNat : Int) := by omega
    by_cases h2 : b.toNat ≤ 57
    · have i2 : (b.toNat : Int) ≤ 57 := by omega
      rw [show isDg b = true by simp [isDg, h1, h2]]
      go_enter Tryd.func38, Tryd.ntmps38
      go_wp2
      go_ret
      exact ⟨rfl, rfl⟩
    · have i2 : ¬ (b.toNat : Int) ≤ 57 := by omega
      rw [show isDg b = false by simp [isDg, h2]]
      go_enter Tryd.func38, Tryd.ntmps38
      go_wp2
      go_ret
      exact ⟨rfl, rfl⟩
  · have i1 : ¬ (48 : Int) ≤ (b.toNat : Int) := by omega
    have d1 : decide ((48 : Int) ≤ (b.toNat : Int)) = false := by simpa using i1
    rw [show isDg b = false by simp [isDg, h1]]
    go_enter Tryd.func38, Tryd.ntmps38
    go_wp2
    go_ret
    exact ⟨rfl, rfl⟩

theorem size_len (d : ByteArray) : d.data.toList.length = d.size := by rw [Array.length_toList]; rfl
theorem get_list (d : ByteArray) (k : Nat) (h : k < d.size) : d.data.toList[k]? = some d[k] := by
  rw [List.getElem?_eq_getElem (by rw [size_len]; exact h)]; rfl
/-- The text is made of digits, one at least. -/
def digB (l : List UInt8) : Bool := !l.isEmpty && l.all isDg
set_option maxHeartbeats 1000000 in
theorem isDigits_any (s : ByteArray) (hs : s.size ≤ 5000) (w : World) : Calls Tryd.prog 28 #[.string s] w fun e w' => e = .returned (.bool (digB s.data.toList)) ∧ w = w' := by
  go_enter Tryd.func28, Tryd.ntmps28
  go_wp2
  go_loop [3] (fun iv => ∃ i : Nat, i ≤ s.size ∧ iv = .int .i64 i ∧ Hid (∀ k, k < i → ∀ b, s.data.toList[k]? = some b → isDg b = true)) (fun iv => s.size - (RowKit.intOf iv).toNat)
  case atStart => exact ⟨0, by omega, rfl, Lib.hid (fun k hk => by omega)⟩
  case round =>
    obtain ⟨i, hi, rfl, HD⟩ := hrel
    by_cases hlt : i < s.size
    · have hg := get_list s i hlt
      have HB := Lib.hid (isDigit_any s[i])
      cases hd : isDg s[i] with
      | true =>
        rw [hd] at HB
        have HG := Lib.hid hg
        have HDD := Lib.hid hd
        clear hg hd
        go_wp2_with fail
        refine (HB.out _).mono ?_
        rintro e w' ⟨rfl, rfl⟩
        go_wp2
        go_round
        case rel => exact ⟨i + 1, by omega, by go_num, Lib.hid (fun k hk b hb => by
          rcases Nat.lt_or_ge k i with h | h
          · exact HD.out k h b hb
          · obtain rfl : k = i := by omega
            rw [HG.out] at hb
            cases hb
            exact HDD.out)⟩
        case measure => simp [RowKit.intOf]; omega
      | false =>
        rw [hd] at HB
        have HR : Hid (digB s.data.toList = false) := Lib.hid (by
          unfold digB
          rw [Bool.and_eq_false_iff]
          right
          rw [List.all_eq_false]
          exact ⟨s[i], List.mem_of_getElem? hg, by simp [hd]⟩)
        clear hg hd
        go_wp2_with fail
        refine (HB.out _).mono ?_
        rintro e w' ⟨rfl, rfl⟩
        go_wp2
        go_ret
        exact ⟨by rw [HR.out]; rfl, rfl⟩
    · have hall : s.data.toList.all isDg = true := by
        rw [List.all_eq_true]
        intro b hb
        obtain ⟨k, hk⟩ := List.mem_iff_getElem?.1 hb
        refine HD.out k ?_ b hk
        rcases Nat.lt_or_ge k s.size with h | h
        · omega
        · rw [List.getElem?_eq_none (by rw [size_len]; exact h)] at hk; cases hk
      have HR : Hid (digB s.data.toList = !s.data.toList.isEmpty) := Lib.hid (by unfold digB; rw [hall, Bool.and_true])
      clear hall
      go_wp2
      go_ret
      refine ⟨?_, rfl⟩
      rw [HR.out]
      first
      | rfl
      | (rw [← ByteArray.toList_eq]; rfl)

/-- The variable ErrRange holds an error. -/
def Sent (w : World) : Prop := ∃ t p, w.cell? ⟨3, 0, none⟩ = some (.iface t p)
theorem Sent.below {w w' : World} {B : Nat} (h : Sent w) (hB : w.heap.size ≤ B) (hb : Below B w w') : Sent w' := by
  obtain ⟨t, p, hc⟩ := h
  have hlt : 3 < w.heap.size := World.block_lt_of_cell? w _ hc
  exact ⟨t, p, (hb.cell (p := ⟨3, 0, none⟩) (Nat.lt_of_lt_of_le hlt hB)).trans hc⟩
theorem head_get (d : ByteArray) (h : 0 < d.size) : d.data.toList.head? = some d[0] := by
  rw [List.head?_eq_getElem?]; exact get_list d 0 h
theorem one_list {l : List UInt8} {b : UInt8} (h : l.head? = some b) (h1 : l.length ≤ 1) : l = [b] := by
  cases l with
  | nil => cases h
  | cons c r =>
    cases r with
    | nil => simp at h; rw [h]
    | cons d r => simp at h1

set_option maxHeartbeats 1000000 in
set_option maxRecDepth 100000 in
theorem Number_any (s : ByteArray) (hs : s.size ≤ 5000) (w : World) (hS : Sent w) :
    Calls Tryd.prog 18 #[.string s, .int .u64 1440] w fun e w' => e = .returned (.tuple #[.int .u64 (if numE s.data.toList = 0 then (valN s.data.toList : Int) else 0), .int .i64 (numE s.data.toList)]) ∧ Below w.heap.size w w' := by
  have HD := Lib.hid (isDigits_any s hs)
  have hz := size_len s
  have HS := Lib.hid hS
  clear hS
  obtain ⟨V, hV⟩ : ∃ V : Int, V = if numE s.data.toList = 0 then (valN s.data.toList : Int) else 0 := ⟨_, rfl⟩
  obtain ⟨E, hE⟩ : ∃ E : Int, E = numE s.data.toList := ⟨_, rfl⟩
  rw [← hV, ← hE]
  have hcs := numE_cases s.data.toList
  cases hd : digB s.data.toList with
  | false =>
    rw [hd] at HD
    have hb : badN s.data.toList = true := by
      unfold digB at hd
      unfold badN
      cases h1 : s.data.toList.isEmpty <;> cases h2 : s.data.toList.all isDg <;> simp_all
    have h3 : numE s.data.toList = 3 := by unfold numE; rw [hb]; rfl
    have HE : Hid (E = 3) := Lib.hid (hE.trans h3)
    have HV : Hid (V = 0) := Lib.hid (by rw [hV, h3]; rfl)
    clear hd hb hz hV hE h3 hcs
    go_enter Tryd.func18, Tryd.ntmps18
    go_wp2_with fail
    refine (HD.out _).mono ?_
    rintro e w' ⟨rfl, rfl⟩
    go_wp2
    go_ret2
    exact ⟨by rw [HE.out, HV.out]; rfl, Below.refl _ _⟩
  | true =>
    rw [hd] at HD
    unfold digB at hd
    simp only [Bool.and_eq_true, Bool.not_eq_true', List.isEmpty_eq_false_iff] at hd
    obtain ⟨hne, hall⟩ := hd
    have hpos : 0 < s.size := by rw [← hz]; exact List.length_pos_iff.2 hne
    have hh := head_get s hpos
    have hp : (0 : Int) < (s.size : Int) := by omega
    have hpu := parseU hne (List.all_eq_true.1 hall)
    have hem : s.data.toList.isEmpty = false := by simpa using hne
    have hcs2 : badN s.data.toList = true ∧ numE s.data.toList = 3 ∧ ((s[0].toNat : Int) == 48) = true ∧ (s.toList == [48]) = false ∨ badN s.data.toList = false ∧ (((s[0].toNat : Int) == 48) = false ∨ ((s[0].toNat : Int) == 48) = true ∧ (s.toList == [48]) = true) := by
      by_cases h48 : s[0] = 48
      · have g1 : ((s[0].toNat : Int) == 48) = true := by rw [h48]; rfl
        by_cases h1 : s.size = 1
        · have hl : s.data.toList = [48] := by rw [h48] at hh; exact one_list hh (by omega)
          refine .inr ⟨by rw [hl]; rfl, .inr ⟨g1, ?_⟩⟩
          rw [ByteArray.toList_eq, hl]; rfl
        · have hb : badN s.data.toList = true := by
            unfold badN
            rw [hh, h48, hz]
            simp; omega
          refine .inl ⟨hb, by unfold numE; rw [hb]; rfl, g1, ?_⟩
          rw [beq_eq_false_iff_ne]
          intro e
          rw [ByteArray.toList_eq] at e
          rw [e] at hz; simp at hz; omega
      · refine .inr ⟨?_, .inl ?_⟩
        · unfold badN
          rw [hem, hall, hh]
          simp [h48]
        · rw [beq_eq_false_iff_ne]
          intro e
          exact h48 (UInt8.toNat_inj.1 (by rw [show (48 : UInt8).toNat = 48 from rfl]; omega))
    rcases hcs2 with ⟨hb, h3, g1, g2⟩ | ⟨hb, hg⟩
    · have HE : Hid (E = 3) := Lib.hid (hE.trans h3)
      have HV : Hid (V = 0) := Lib.hid (by rw [hV, h3]; rfl)
      clear hb hz hV hE h3 hcs hpu hall hem hh hne
      go_enter Tryd.func18, Tryd.ntmps18
      go_wp2_with fail
      refine (HD.out _).mono ?_
      rintro e w' ⟨rfl, rfl⟩
      go_wp2_with fail
      go_ret2
      exact ⟨by rw [HE.out, HV.out]; rfl, Below.refl _ _⟩
    · have hcs : (numE s.data.toList = 2 ∧ 1440 < valN s.data.toList) ∨ (numE s.data.toList = 0 ∧ valN s.data.toList ≤ 1440) := by
        rcases hcs with ⟨-, h⟩ | ⟨h1, -, h2⟩ | ⟨h1, -, h2⟩
        · rw [hb] at h; cases h
        · exact .inl ⟨h1, h2⟩
        · exact .inr ⟨h1, h2⟩
      have HVE : Hid ((V = 0 ∧ E = 2 ∧ 1440 < valN s.data.toList) ∨ (V = (valN s.data.toList : Int) ∧ E = 0 ∧ valN s.data.toList ≤ 1440)) := Lib.hid (by
        rcases hcs with ⟨h1, h2⟩ | ⟨h1, h2⟩
        · exact .inl ⟨by rw [hV, h1]; rfl, by rw [hE, h1], h2⟩
        · exact .inr ⟨by rw [hV, h1]; rfl, by rw [hE, h1], h2⟩)
      generalize valN s.data.toList = U at HVE hpu
      clear hb hV hE hcs hall hem hh hne hz
      by_cases hU : U ≤ 18446744073709551615
      · rw [if_pos hU] at hpu
        have HP := Lib.hid (Tryd.strconv_ParseUint_10_at64_ok s (by omega) _ hpu)
        clear hpu hU
        rcases HVE.out with ⟨rfl, rfl, hu⟩ | ⟨rfl, rfl, hu⟩
        · have g3 : (1440 : Int) < (U : Int) := by omega
          rcases hg with g1 | ⟨g1, g2⟩
          all_goals
            go_enter Tryd.func18, Tryd.ntmps18
            go_wp2_with fail
            refine (HD.out _).mono ?_
            rintro e w' ⟨rfl, rfl⟩
            go_wp2_with fail
            refine (HP.out _).mono ?_
            rintro e w2 ⟨rfl, hw2⟩
            have hb2 : Below w.heap.size w w2 := by
              rcases hw2 with rfl | rfl
              · exact Below.refl _ _
              · exact bytesWorld_below _ _ _
            clear hw2
            go_wp2_with fail
            go_ret2
            exact ⟨rfl, hb2⟩
        · have g3 : ¬ (1440 : Int) < (U : Int) := by omega
          rcases hg with g1 | ⟨g1, g2⟩
          all_goals
            go_enter Tryd.func18, Tryd.ntmps18
            go_wp2_with fail
            refine (HD.out _).mono ?_
            rintro e w' ⟨rfl, rfl⟩
            go_wp2_with fail
            refine (HP.out _).mono ?_
            rintro e w2 ⟨rfl, hw2⟩
            have hb2 : Below w.heap.size w w2 := by
              rcases hw2 with rfl | rfl
              · exact Below.refl _ _
              · exact bytesWorld_below _ _ _
            clear hw2
            go_wp2_with fail
            go_ret2
            exact ⟨rfl, hb2⟩
      · rw [if_neg hU] at hpu
        obtain ⟨t, p, hc⟩ := HS.out
        have HP := Lib.hid (Tryd.strconv_ParseUint_10_at64_range s (by omega) hpu _ w hc (.inr ⟨t, p, rfl⟩))
        obtain ⟨rfl, rfl⟩ : V = 0 ∧ E = 2 := by
          rcases HVE.out with ⟨h1, h2, -⟩ | ⟨-, -, h2⟩
          · exact ⟨h1, h2⟩
          · omega
        clear hpu hU hc HVE
        rcases hg with g1 | ⟨g1, g2⟩
        all_goals
          go_enter Tryd.func18, Tryd.ntmps18
          go_wp2_with fail
          refine (HD.out _).mono ?_
          rintro e w' ⟨rfl, rfl⟩
          go_wp2_with fail
          refine (HP.out).mono ?_
          rintro e w2 ⟨N, rfl, -, -, hb2⟩
          go_wp2_with fail
          go_ret2
          exact ⟨rfl, hb2⟩

end Go.Proofs.YtbgilplaefdhbaaDoor
