/-
  What is proved: what the document's own Parse of a rate returns on a text that does not begin with a minus is what rate.Parse comes to. Conditions: the text is shorter than 2^62 bytes.
-/
import Derived.Test.YthdjpkpkkdnofabDoorRefDigits
namespace Go.Proofs.YthdjpkpkkdnofabDoor
open Go Go.RowKit Go.Sort Go.Lib Go.Proofs

theorem seg_le0 (l : List UInt8) (k e : Nat) : (seg l k e).length ≤ e - k := by unfold seg; rw [List.length_take]; omega

set_option maxHeartbeats 8000000 in
set_option maxRecDepth 100000 in
theorem refRead0 (s : ByteArray) (hs : s.size ≤ 4611686018427387904) (h1 : 0 < s.size) (h45 : ¬ s[0].toNat = 45) (hA : At s.data.toList false 0) (w : World) : Calls Tryd.prog 12 #[.string s] w fun e w' => e = .returned (.tuple #[.int .i64 (rateR s.data.toList).1, .int .i64 (rateR s.data.toList).2]) ∧ w = w' := by
  obtain ⟨R, hR⟩ : ∃ R, R = rateR s.data.toList := ⟨_, rfl⟩
  rw [← hR]
  have HR := Lib.hid hR
  have HA := Lib.hid hA
  have hne : s.toList.isEmpty = false := by
    rw [Lib.toList_data]
    cases h : s.data.toList with
    | nil => rw [← size_len, h] at h1; simp at h1
    | cons a r => rfl
  have h45b : ((s[0].toNat : Int) == 45) = false := beq_eq_false_iff_ne.2 (by omega)
  clear hR hA h45
  go_enter Tryd.func12, Tryd.ntmps12
  go_wp2_with fail
  refine (rdigits3 s hs 0 (by omega) (by omega) _).mono ?_
  rintro e w' ⟨wh, rfl, hwh, hle, rfl⟩
  replace hwh : Hid (dn (s.data.toList.drop 0) = wh) := Lib.hid hwh.out
  replace hle : 0 + wh ≤ s.size := hle
  by_cases hw0 : wh = 0
  · subst hw0
    obtain rfl : R = (0, 3) := HR.out.trans (ref_fail HA.out hwh.out rfl (fun h => absurd h.1 (by omega)))
    clear HR HA hwh
    go_wp2
    go_ret2
    exact ⟨rfl, rfl⟩

  by_cases hb : 1 < wh ∧ 0 < s.size ∧ s[0]!.toNat = 48
  · obtain ⟨hb1, hb2, hb3⟩ := hb
    rw [getElem!_pos s 0 hb2] at hb3
    have hb4 : s.data.toList[0]? = some 48 := by rw [get_len s 0 hb2, UInt8.toNat_inj.1 (show s[0].toNat = (48 : UInt8).toNat by rw [hb3]; rfl)]
    have hb5 : ((s[0].toNat : Int) == 48) = true := by rw [hb3]; rfl
    have hb6 : ((wh : Int) == 0) = false := beq_eq_false_iff_ne.2 (by omega)
    obtain rfl : R = (0, 3) := HR.out.trans (ref_fail HA.out hwh.out rfl (fun h => h.2.1 ⟨hb1, hb4⟩))
    clear HR HA hwh hb3 hb4
    go_wp2
    go_ret2
    exact ⟨rfl, rfl⟩
  have hok : ¬ (1 < wh ∧ s.data.toList[0]? = some 48) := by
    rintro ⟨c1, c2⟩
    have c3 : 0 < s.size := by omega
    rw [get_len s 0 c3] at c2
    exact hb ⟨c1, c3, by rw [getElem!_pos s 0 c3, Option.some.inj c2]; rfl⟩
  have hA1 : 0 < s.size := by omega
  have hcase : wh = 1 ∨ (1 < wh ∧ ((s[0].toNat : Int) == 48) = false) := by
    by_cases c1 : 1 < wh
    · exact .inr ⟨c1, beq_eq_false_iff_ne.2 (fun e => hb ⟨c1, hA1, by rw [getElem!_pos s 0 hA1]; omega⟩)⟩
    · left; omega
  have hw1 : 1 ≤ wh := by omega
  have hb6 : ((wh : Int) == 0) = false := beq_eq_false_iff_ne.2 (by omega)
  have HOKW := Lib.hid hok
  clear hb hok hw0
  obtain ⟨p, hpw⟩ : ∃ p, 0 + wh = p := ⟨_, rfl⟩
  have e1 : (0 : Int) + (wh : Int) = (p : Int) := by omega
  have e1b : (wh : Int) + 0 = (p : Int) := by omega
  have hps : p ≤ s.size := by omega
  have hap : 0 < p := by omega
  have hcase2 : (decide (1 < (wh : Int)) = false) ∨ (decide (1 < (wh : Int)) = true ∧ ((s[0].toNat : Int) == 48) = false) := by
    rcases hcase with h | h
    · left; exact decide_eq_false (by omega)
    · right; exact ⟨decide_eq_true (by omega), h.2⟩
  clear hcase
  have hLen : s.data.toList.length = s.size := size_len s
  by_cases hpe : p = s.size
  · obtain rfl : R = (0, 3) := HR.out.trans (ref_fail HA.out hwh.out rfl (by
      rintro ⟨_, _, h | h⟩
      · have := h.2.2.2.2.1; omega
      · have := h.2; omega))
    clear HR HA hwh hpw HOKW hLen
    subst hpe
    have hq2 : ((s.size : Int) != (s.size : Int) - 1) = true := by rw [bne_iff_ne]; omega
    rcases hcase2 with h | ⟨h, hx⟩
    all_goals
      go_wp2
      go_ret2
      exact ⟨rfl, rfl⟩
  have hplt : p < s.size := by omega
  have hpget := get_len s p hplt
  by_cases hdot : s[p].toNat = 46
  case neg =>
    have hdotb : ((s[p].toNat : Int) == 46) = false := beq_eq_false_iff_ne.2 (by omega)
    by_cases hpl : p + 1 = s.size
    case neg =>
      obtain rfl : R = (0, 3) := HR.out.trans (ref_fail HA.out hwh.out rfl (by
        rintro ⟨_, _, h | h⟩
        · apply hdot
          have := h.1
          rw [hpw, hpget] at this
          rw [Option.some.inj this]; rfl
        · have := h.2; omega))
      have hq2 : ((p : Int) != (s.size : Int) - 1) = true := by rw [bne_iff_ne]; omega
      clear HR HA hwh hpw HOKW hLen hpe hw1 hpget hdot hpl
      rcases hcase2 with h | ⟨h, hx⟩
      all_goals
        go_wp2
        go_ret2
        exact ⟨rfl, rfl⟩
    have hq2 : ((p : Int) != (s.size : Int) - 1) = false := by rw [bne_eq_false_iff_eq]; omega
    by_cases hpc : s[p].toNat = 37
    case neg =>
      obtain rfl : R = (0, 3) := HR.out.trans (ref_fail HA.out hwh.out rfl (by
        rintro ⟨_, _, h | h⟩
        · apply hdot
          have := h.1
          rw [hpw, hpget] at this
          rw [Option.some.inj this]; rfl
        · apply hpc
          have := h.1
          rw [hpw, hpget] at this
          rw [Option.some.inj this]; rfl))
      have hq3 : ((s[p].toNat : Int) != 37) = true := by rw [bne_iff_ne]; omega
      clear HR HA hwh hpw HOKW hLen hpe hw1 hpget hdot hpl hpc
      rcases hcase2 with h | ⟨h, hx⟩
      all_goals
        go_wp2
        go_ret2
        exact ⟨rfl, rfl⟩
    have hq3 : ((s[p].toNat : Int) != 37) = false := by rw [bne_eq_false_iff_eq]; omega
    have HOK : Hid (R = toldN false (10000 * refW 0 (seg s.data.toList 0 p) + fracN 1000 (seg s.data.toList (p + 1) (p + 1)))) := Lib.hid (by
      rw [HR.out, ref_okE HA.out hwh.out hw1 HOKW.out ⟨by rw [hpw, hpget, UInt8.toNat_inj.1 (show s[p].toNat = (37 : UInt8).toNat by rw [hpc]; rfl)], by omega⟩, hpw, seg_end])
    clear HR HOKW hLen hpe hw1 hpget hdot hpc
    rcases hcase2 with h | ⟨h, hx⟩
    all_goals
      obtain ⟨N, hN⟩ : ∃ N, N = refW 0 (seg s.data.toList 0 p) := ⟨_, rfl⟩
      have HD := Lib.hid (seg_dig hwh.out)
      rw [hpw] at HD
      have hN9 : N ≤ 10000009 := by rw [hN]; exact refW_le _ _ HD.out (by omega)
      have HN := Lib.hid hN
      obtain ⟨T, hT⟩ : ∃ T, T = 10000 * N + fracN 1000 (seg s.data.toList (p + 1) (p + 1)) := ⟨_, rfl⟩
      have HR2 : Hid (R = toldN false T) := Lib.hid (by rw [HOK.out, hT, hN])
      have HT := Lib.hid hT
      have hT9 : (T : Int) ≤ 100000099999 := by
        have hfr : fracN 1000 (seg s.data.toList (p + 1) (p + 1)) < 10000 := by rw [seg_end]; decide
        omega
      clear hN hT HOK hpw hwh HA
      go_wp2
      go_loop [8, 9] (fun nv iv => ∃ k z : Nat, 0 ≤ k ∧ k ≤ p ∧ z ≤ 10000009 ∧ iv = .int .i64 k ∧ nv = .int .u64 z ∧ Hid (refW z (seg s.data.toList k p) = N)) (fun _ iv => p - (RowKit.intOf iv).toNat)
      case atStart => exact ⟨0, 0, by omega, by omega, by omega, rfl, rfl, Lib.hid HN.out.symm⟩
      case round =>
        obtain ⟨k, z, hk0, hk1, hz, rfl, rfl, HZ⟩ := hrel
        by_cases hkp : k < p
        · have hks : k < s.size := by omega
          have hdk : isDig (s[k]'hks) = true := seg_mem HD.out hk0 hkp (by rw [size_len]; exact hks)
          have h48 : 48 ≤ s[k].toNat := (isDig_iff.1 hdk).1
          have h57 : s[k].toNat ≤ 57 := (isDig_iff.1 hdk).2
          clear hdk
          by_cases hz6 : z < 1000000
          · have HX : Hid (refW (10 * z + (s[k].toNat - 48)) (seg s.data.toList (k + 1) p) = N) := Lib.hid (by
              rw [← HZ.out, seg_cons hkp hks, refW_cons, if_pos hz6])
            have hzi : (z : Int) < 1000000 := by omega
            have hzb : decide ((z : Int) < 1000000) = true := decide_eq_true hzi
            clear HZ hz6 hz
            go_wp2
            go_round
            case rel => exact ⟨k + 1, 10 * z + (s[k].toNat - 48), by omega, by omega, by omega, by go_num, congrArg (Value.int .u64) (by omega), HX⟩
            case measure => simp [RowKit.intOf]; omega
          · have HX : Hid (refW z (seg s.data.toList (k + 1) p) = N) := Lib.hid (by
              rw [← HZ.out, seg_cons hkp hks, refW_cons, if_neg hz6])
            have hzi : (z : Int) ≤ 10000009 := by omega
            have hzb : decide ((z : Int) < 1000000) = false := decide_eq_false (by omega)
            clear HZ hz6 hz
            go_wp2
            go_round
            case rel => exact ⟨k + 1, z, by omega, by omega, by omega, by go_num, rfl, HX⟩
            case measure => simp [RowKit.intOf]; omega
        · have hkp2 : k = p := by omega
          obtain rfl : z = N := by rw [← HZ.out, hkp2, seg_end, refW_nil]
          clear HZ HN HD hkp2
          go_wp2
          go_loop [8, 10, 11] (fun nv sv iv => ∃ k y sc : Nat, k ≤ (p + 1) ∧ y ≤ T ∧ ((k = (p + 1) ∧ sc = 1000) ∨ (k = (p + 1) + 1 ∧ sc = 100) ∨ (k = (p + 1) + 2 ∧ sc = 10) ∨ (k = (p + 1) + 3 ∧ sc = 1) ∨ (k = (p + 1) + 4 ∧ sc = 0)) ∧ iv = .int .i64 k ∧ nv = .int .u64 y ∧ sv = .int .u64 sc ∧ Hid (y + fracN sc (seg s.data.toList k (p + 1)) = T)) (fun _ _ iv => (p + 1) - (RowKit.intOf iv).toNat)
          case atStart => exact ⟨(p + 1), 10000 * z, 1000, by omega, by rw [HT.out]; omega, .inl ⟨rfl, rfl⟩, by go_num, congrArg (Value.int .u64) (by omega), rfl, Lib.hid HT.out.symm⟩
          case round =>
            obtain ⟨k, y, sc, hk1, hy, hsc, rfl, rfl, rfl, HY⟩ := hrel
            by_cases hke : k < (p + 1)
            · exfalso; omega
            · have hke2 : k = (p + 1) := by omega
              obtain rfl : y = T := by rw [← HY.out, hke2, seg_end]; rfl
              clear HY HT hsc hke2
              by_cases h0 : y = 0
              · subst h0
                obtain rfl : R = (0, 0) := HR2.out
                go_wp2
                go_ret2
                exact ⟨rfl, rfl⟩
              · have h0b : ((y : Int) == 0) = false := beq_eq_false_iff_ne.2 (by omega)
                by_cases hbig : 1000000000 < y
                · obtain rfl : R = (0, 2) := by rw [HR2.out]; unfold toldN; rw [if_neg (by rintro ⟨_, h⟩; omega), if_pos hbig]
                  go_wp2
                  go_ret2
                  exact ⟨rfl, rfl⟩
                · obtain rfl : R = ((y : Int), 0) := by rw [HR2.out]; unfold toldN; rw [if_neg (by rintro ⟨_, h⟩; omega), if_neg hbig]; rfl
                  go_wp2
                  go_ret2
                  exact ⟨rfl, rfl⟩

  have hdotb : ((s[p].toNat : Int) == 46) = true := by rw [hdot]; rfl
  have hp46 : s.data.toList[0 + wh]? = some 46 := by rw [hpw, hpget, UInt8.toNat_inj.1 (show s[p].toNat = (46 : UInt8).toNat by rw [hdot]; rfl)]
  have HP := Lib.hid hp46
  clear hdot hpget hp46
  have HRF : ∀ f, dn (s.data.toList.drop (p + 1)) = f → ¬ PassC s.data.toList 0 wh f → R = (0, 3) := by
    intro f hf hbad
    refine HR.out.trans (ref_fail HA.out hwh.out (f := f) (by rw [hpw]; exact hf) ?_)
    rintro ⟨_, _, h | h⟩
    · exact hbad h
    · have := h.1
      rw [HP.out] at this
      exact absurd (Option.some.inj this) (by decide)
  have HG := Lib.hid HRF
  clear HRF
  rcases hcase2 with h | ⟨h, hx⟩
  all_goals
    go_wp2_with fail
    refine (rdigits3 s hs _ (by omega) (by omega) _).mono ?_
    rintro e w' ⟨f, rfl, hf, hfle, rfl⟩
    replace hf : Hid (dn (s.data.toList.drop (p + 1)) = f) := Lib.hid (by
      have := hf.out
      rwa [show ((p : Int) + 1).toNat = p + 1 by omega] at this)
    replace hfle : p + 1 + f ≤ s.size := by omega
    by_cases hf0 : f = 0
    · subst hf0
      obtain rfl : R = (0, 3) := HG.out 0 hf.out (fun h => absurd h.2.1 (by omega))
      clear HR HA hwh hpw HOKW hLen hpe hw1 HP HG hf
      go_wp2
      go_ret2
      exact ⟨rfl, rfl⟩
    have hf0b : ((f : Int) == 0) = false := beq_eq_false_iff_ne.2 (by omega)
    by_cases hf4 : 4 < f
    · obtain rfl : R = (0, 3) := HG.out f hf.out (fun h => absurd h.2.2.1 (by omega))
      have hf4b : decide (4 < (f : Int)) = true := decide_eq_true (by omega)
      clear HR HA hwh hpw HOKW hLen hpe hw1 HP HG hf
      go_wp2
      go_ret2
      exact ⟨rfl, rfl⟩
    have hf4b : decide (4 < (f : Int)) = false := decide_eq_false (by omega)
    obtain ⟨t, ht⟩ : ∃ t, t = p + f := ⟨_, rfl⟩
    have e2 : (p : Int) + (f : Int) = (t : Int) := by omega
    have hts : t < s.size := by omega
    have htget := get_len s t hts
    have htA : 0 + wh + f = t := by omega
    by_cases ht48 : s[t].toNat = 48
    · obtain rfl : R = (0, 3) := HG.out f hf.out (fun h => h.2.2.2.1 (by rw [htA, htget, UInt8.toNat_inj.1 (show s[t].toNat = (48 : UInt8).toNat by rw [ht48]; rfl)]))
      have hq4 : ((s[t].toNat : Int) == 48) = true := by rw [ht48]; rfl
      clear HR HA hwh hpw HOKW hLen hpe hw1 HP HG hf htget htA ht ht48
      go_wp2
      go_ret2
      exact ⟨rfl, rfl⟩
    have hq4 : ((s[t].toNat : Int) == 48) = false := beq_eq_false_iff_ne.2 (by omega)
    have HT48 : Hid (s.data.toList[0 + wh + f]? ≠ some 48) := Lib.hid (by
      intro e
      rw [htA, htget] at e
      exact ht48 (by rw [Option.some.inj e]; rfl))
    obtain ⟨q, hq⟩ : ∃ q, q = p + 1 + f := ⟨_, rfl⟩
    have e3 : (p : Int) + 1 + (f : Int) = (q : Int) := by omega
    have hqA : 0 + wh + 1 + f = q := by omega
    have hq5 : q ≤ s.size := by omega
    have hqb1 : p + 1 ≤ q := by omega
    have hqb2 : q ≤ p + 1 + 4 := by omega
    clear htget htA ht ht48
    by_cases hql : q + 1 = s.size
    case neg =>
      obtain rfl : R = (0, 3) := HG.out f hf.out (fun h => by have := h.2.2.2.2.1; omega)
      have hq2 : ((q : Int) != (s.size : Int) - 1) = true := by rw [bne_iff_ne]; omega
      clear HR HA hwh hpw HOKW hLen hpe hw1 HP HG hf HT48 hq hqA hql
      go_wp2
      go_ret2
      exact ⟨rfl, rfl⟩
    have hq2 : ((q : Int) != (s.size : Int) - 1) = false := by rw [bne_eq_false_iff_eq]; omega
    have hqlt : q < s.size := by omega
    have hqget := get_len s q hqlt
    by_cases hpc : s[q].toNat = 37
    case neg =>
      obtain rfl : R = (0, 3) := HG.out f hf.out (fun h => by
        apply hpc
        have := h.2.2.2.2.2
        rw [hqA, hqget] at this
        rw [Option.some.inj this]; rfl)
      have hq3 : ((s[q].toNat : Int) != 37) = true := by rw [bne_iff_ne]; omega
      clear HR HA hwh hpw HOKW hLen hpe hw1 HP HG hf HT48 hq hqA hql hqget hpc
      go_wp2
      go_ret2
      exact ⟨rfl, rfl⟩
    have hq3 : ((s[q].toNat : Int) != 37) = false := by rw [bne_eq_false_iff_eq]; omega
    have HOK : Hid (R = toldN false (10000 * refW 0 (seg s.data.toList 0 p) + fracN 1000 (seg s.data.toList (p + 1) q))) := Lib.hid (by
      rw [HR.out, ref_okC HA.out hwh.out (f := f) (by rw [hpw]; exact hf.out) hw1 HOKW.out ⟨HP.out, by omega, by omega, HT48.out, by omega, by rw [hqA, hqget, UInt8.toNat_inj.1 (show s[q].toNat = (37 : UInt8).toNat by rw [hpc]; rfl)]⟩, hpw, hqA.symm.trans (by omega : 0 + wh + 1 + f = p + 1 + f), ← hq])
    have HF : Hid ((seg s.data.toList (p + 1) q).all isDig = true) := Lib.hid (by rw [hq]; exact seg_dig hf.out)
    clear HR HOKW hLen hpe hw1 HP HG hf HT48 hqA hqget hpc hq
    obtain ⟨N, hN⟩ : ∃ N, N = refW 0 (seg s.data.toList 0 p) := ⟨_, rfl⟩
    have HD := Lib.hid (seg_dig hwh.out)
    rw [hpw] at HD
    have hN9 : N ≤ 10000009 := by rw [hN]; exact refW_le _ _ HD.out (by omega)
    have HN := Lib.hid hN
    obtain ⟨T, hT⟩ : ∃ T, T = 10000 * N + fracN 1000 (seg s.data.toList (p + 1) q) := ⟨_, rfl⟩
    have HR2 : Hid (R = toldN false T) := Lib.hid (by rw [HOK.out, hT, hN])
    have HT := Lib.hid hT
    have hT9 : (T : Int) ≤ 100000099999 := by
      have hfr : fracN 1000 (seg s.data.toList (p + 1) q) < 10000 := (frac_pad HF.out (Nat.le_trans (seg_le0 _ _ _) (by omega))).2.1
      omega
    clear hN hT HOK hpw hwh HA
    go_wp2
    go_loop [8, 9] (fun nv iv => ∃ k z : Nat, 0 ≤ k ∧ k ≤ p ∧ z ≤ 10000009 ∧ iv = .int .i64 k ∧ nv = .int .u64 z ∧ Hid (refW z (seg s.data.toList k p) = N)) (fun _ iv => p - (RowKit.intOf iv).toNat)
    case atStart => exact ⟨0, 0, by omega, by omega, by omega, rfl, rfl, Lib.hid HN.out.symm⟩
    case round =>
      obtain ⟨k, z, hk0, hk1, hz, rfl, rfl, HZ⟩ := hrel
      by_cases hkp : k < p
      · have hks : k < s.size := by omega
        have hdk : isDig (s[k]'hks) = true := seg_mem HD.out hk0 hkp (by rw [size_len]; exact hks)
        have h48 : 48 ≤ s[k].toNat := (isDig_iff.1 hdk).1
        have h57 : s[k].toNat ≤ 57 := (isDig_iff.1 hdk).2
        clear hdk
        by_cases hz6 : z < 1000000
        · have HX : Hid (refW (10 * z + (s[k].toNat - 48)) (seg s.data.toList (k + 1) p) = N) := Lib.hid (by
            rw [← HZ.out, seg_cons hkp hks, refW_cons, if_pos hz6])
          have hzi : (z : Int) < 1000000 := by omega
          have hzb : decide ((z : Int) < 1000000) = true := decide_eq_true hzi
          clear HZ hz6 hz
          go_wp2
          go_round
          case rel => exact ⟨k + 1, 10 * z + (s[k].toNat - 48), by omega, by omega, by omega, by go_num, congrArg (Value.int .u64) (by omega), HX⟩
          case measure => simp [RowKit.intOf]; omega
        · have HX : Hid (refW z (seg s.data.toList (k + 1) p) = N) := Lib.hid (by
            rw [← HZ.out, seg_cons hkp hks, refW_cons, if_neg hz6])
          have hzi : (z : Int) ≤ 10000009 := by omega
          have hzb : decide ((z : Int) < 1000000) = false := decide_eq_false (by omega)
          clear HZ hz6 hz
          go_wp2
          go_round
          case rel => exact ⟨k + 1, z, by omega, by omega, by omega, by go_num, rfl, HX⟩
          case measure => simp [RowKit.intOf]; omega
      · have hkp2 : k = p := by omega
        obtain rfl : z = N := by rw [← HZ.out, hkp2, seg_end, refW_nil]
        clear HZ HN HD hkp2
        go_wp2
        go_loop [8, 10, 11] (fun nv sv iv => ∃ k y sc : Nat, k ≤ q ∧ y ≤ T ∧ ((k = (p + 1) ∧ sc = 1000) ∨ (k = (p + 1) + 1 ∧ sc = 100) ∨ (k = (p + 1) + 2 ∧ sc = 10) ∨ (k = (p + 1) + 3 ∧ sc = 1) ∨ (k = (p + 1) + 4 ∧ sc = 0)) ∧ iv = .int .i64 k ∧ nv = .int .u64 y ∧ sv = .int .u64 sc ∧ Hid (y + fracN sc (seg s.data.toList k q) = T)) (fun _ _ iv => q - (RowKit.intOf iv).toNat)
        case atStart => exact ⟨(p + 1), 10000 * z, 1000, by omega, by rw [HT.out]; omega, .inl ⟨rfl, rfl⟩, by go_num, congrArg (Value.int .u64) (by omega), rfl, Lib.hid HT.out.symm⟩
        case round =>
          obtain ⟨k, y, sc, hk1, hy, hsc, rfl, rfl, rfl, HY⟩ := hrel
          by_cases hke : k < q
          · have hks : k < s.size := by omega
            have hdk : isDig (s[k]'hks) = true := seg_mem HF.out (by omega) hke (by rw [size_len]; exact hks)
            have h48 : 48 ≤ s[k].toNat := (isDig_iff.1 hdk).1
            have h57 : s[k].toNat ≤ 57 := (isDig_iff.1 hdk).2
            clear hdk
            have HY2 : Hid (y + (sc * (s[k].toNat - 48) + fracN (sc / 10) (seg s.data.toList (k + 1) q)) = T) := Lib.hid (by
              rw [← HY.out, seg_cons hke hks, fracN])
            clear HY
            rcases hsc with ⟨hkb, rfl⟩ | ⟨hkb, rfl⟩ | ⟨hkb, rfl⟩ | ⟨hkb, rfl⟩ | ⟨hkb, rfl⟩
            · have HKB := Lib.hid hkb
              have hy2 := HY2.out
              have hyT : y + 1000 * (s[k].toNat - 48) ≤ T := by omega
              have HX : Hid (y + 1000 * (s[k].toNat - 48) + fracN 100 (seg s.data.toList (k + 1) q) = T) := Lib.hid (by rw [← hy2, Nat.add_assoc])
              clear hy2 HY2 hkb
              go_wp2
              go_round
              case rel => exact ⟨k + 1, y + 1000 * (s[k].toNat - 48), 100, by omega, hyT, .inr (.inl ⟨by have := HKB.out; omega, rfl⟩), by go_num, congrArg (Value.int .u64) (by omega), rfl, HX⟩
              case measure => simp [RowKit.intOf]; omega
            · have HKB := Lib.hid hkb
              have hy2 := HY2.out
              have hyT : y + 100 * (s[k].toNat - 48) ≤ T := by omega
              have HX : Hid (y + 100 * (s[k].toNat - 48) + fracN 10 (seg s.data.toList (k + 1) q) = T) := Lib.hid (by rw [← hy2, Nat.add_assoc])
              clear hy2 HY2 hkb
              go_wp2
              go_round
              case rel => exact ⟨k + 1, y + 100 * (s[k].toNat - 48), 10, by omega, hyT, .inr (.inr (.inl ⟨by have := HKB.out; omega, rfl⟩)), by go_num, congrArg (Value.int .u64) (by omega), rfl, HX⟩
              case measure => simp [RowKit.intOf]; omega
            · have HKB := Lib.hid hkb
              have hy2 := HY2.out
              have hyT : y + 10 * (s[k].toNat - 48) ≤ T := by omega
              have HX : Hid (y + 10 * (s[k].toNat - 48) + fracN 1 (seg s.data.toList (k + 1) q) = T) := Lib.hid (by rw [← hy2, Nat.add_assoc])
              clear hy2 HY2 hkb
              go_wp2
              go_round
              case rel => exact ⟨k + 1, y + 10 * (s[k].toNat - 48), 1, by omega, hyT, .inr (.inr (.inr (.inl ⟨by have := HKB.out; omega, rfl⟩))), by go_num, congrArg (Value.int .u64) (by omega), rfl, HX⟩
              case measure => simp [RowKit.intOf]; omega
            · have HKB := Lib.hid hkb
              have hy2 := HY2.out
              have hyT : y + 1 * (s[k].toNat - 48) ≤ T := by omega
              have HX : Hid (y + 1 * (s[k].toNat - 48) + fracN 0 (seg s.data.toList (k + 1) q) = T) := Lib.hid (by rw [← hy2, Nat.add_assoc])
              clear hy2 HY2 hkb
              go_wp2
              go_round
              case rel => exact ⟨k + 1, y + 1 * (s[k].toNat - 48), 0, by omega, hyT, .inr (.inr (.inr (.inr ⟨by have := HKB.out; omega, rfl⟩))), by go_num, congrArg (Value.int .u64) (by omega), rfl, HX⟩
              case measure => simp [RowKit.intOf]; omega
            · exfalso; omega
          · have hke2 : k = q := by omega
            obtain rfl : y = T := by rw [← HY.out, hke2, seg_end]; rfl
            clear HY HT hsc hke2
            by_cases h0 : y = 0
            · subst h0
              obtain rfl : R = (0, 0) := HR2.out
              go_wp2
              go_ret2
              exact ⟨rfl, rfl⟩
            · have h0b : ((y : Int) == 0) = false := beq_eq_false_iff_ne.2 (by omega)
              by_cases hbig : 1000000000 < y
              · obtain rfl : R = (0, 2) := by rw [HR2.out]; unfold toldN; rw [if_neg (by rintro ⟨_, h⟩; omega), if_pos hbig]
                go_wp2
                go_ret2
                exact ⟨rfl, rfl⟩
              · obtain rfl : R = ((y : Int), 0) := by rw [HR2.out]; unfold toldN; rw [if_neg (by rintro ⟨_, h⟩; omega), if_neg hbig]; rfl
                go_wp2
                go_ret2
                exact ⟨rfl, rfl⟩

end Go.Proofs.YthdjpkpkkdnofabDoor
