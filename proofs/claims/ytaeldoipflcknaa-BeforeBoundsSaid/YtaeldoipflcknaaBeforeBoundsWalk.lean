/-
  What is proved: the walk of the statement BeforeBounds: the call returns true. Conditions: what came in is as the frame says.
-/
import Derived.Test.YtaeldoipflcknaaBfP
import Derived.Deep.QuietTactic
namespace Go.Proofs.Ytaeldoipflcknaa
open Go Go.RowKit Go.Lib Go.Proofs
open Ra (fitsB fitsB_iff)
set_option linter.unusedVariables false

theorem codeI_bd : ∀ (L : Ti) (s : ByteArray), (∀ p ∈ L, 0 ≤ p.2) → 0 ≤ codeI L s ∧ codeI L s ≤ sumI L
  | [], s, _ => ⟨Int.le_refl _, Int.le_refl _⟩
  | p :: r, s, h => by
    obtain ⟨a, b⟩ := codeI_bd r s (fun q hq => h q (List.mem_cons_of_mem _ hq))
    have h1 := h p (List.mem_cons_self ..)
    show 0 ≤ (if p.1 = s then p.2 else 0) + codeI r s ∧ (if p.1 = s then p.2 else 0) + codeI r s ≤ p.2 + sumI r
    split <;> omega
theorem wantI_bd : ∀ (L : Ti) (s : ByteArray), (∀ p ∈ L, 0 ≤ p.2) → 0 ≤ wantI L s ∧ wantI L s ≤ L.length * 2251799813685248
  | [], s, _ => ⟨Int.le_refl _, Int.le_refl _⟩
  | p :: r, s, h => by
    obtain ⟨a, b⟩ := wantI_bd r s (fun q hq => h q (List.mem_cons_of_mem _ hq))
    have h1 := h p (List.mem_cons_self ..)
    show 0 ≤ (if p.1 = s then min p.2 2251799813685248 else 0) + wantI r s ∧ (if p.1 = s then min p.2 2251799813685248 else 0) + wantI r s ≤ ((r.length + 1 : Nat) : Int) * 2251799813685248
    split <;> omega
/-- What the statement asks of a limit. -/
theorem lim_ways (t nw m y : Int) (h1 : y ≠ 0 → 0 < t → nw ≤ y) (h2 : m = 0 → t ≤ 0) (y0 : 0 ≤ y) :
    (decide (0 < t) = false ∧ decide (0 < y) = false ∧ (m == 0) = false) ∨ (decide (0 < t) = false ∧ decide (0 < y) = false ∧ (m == 0) = true) ∨ (decide (0 < t) = false ∧ decide (0 < y) = true ∧ (m == 0) = false) ∨ (decide (0 < t) = false ∧ decide (0 < y) = true ∧ (m == 0) = true) ∨
    (decide (0 < t) = true ∧ decide (0 < y) = false ∧ (m == 0) = false) ∨ (decide (0 < t) = true ∧ decide (0 < y) = true ∧ decide (y < nw) = false ∧ (m == 0) = false) := by
  simp only [decide_eq_true_eq, decide_eq_false_iff_not, beq_iff_eq, beq_eq_false_iff_ne]
  omega

set_option maxHeartbeats 8000000 in
set_option maxRecDepth 100000 in
theorem walkBeforeBounds (c : Cs) (w : World) (hc : CsIn w c) :
    Calls Try.prog 4 #[c.val] w fun e w' => e = .returned (.bool true) ∧ Below w.heap.size w w' := by
  obtain ⟨g, pr, nr, cr, was, pw, nw, cw, W, pl, nl, cl, L⟩ := c
  obtain ⟨⟨r1, r2, r3, r4⟩, ⟨w1, w2, w3, w4⟩, l1, l2, l3, l4⟩ := hc
  dsimp only at r1 r2 r3 r4 w1 w2 w3 w4 l1 l2 l3 l4
  subst r1
  subst w1
  subst l1
  obtain ⟨c, hcdef⟩ : ∃ c : Cs, c = ⟨g, pr, was.length, cr, was, pw, W.length, cw, W, pl, L.length, cl, L⟩ := ⟨_, rfl⟩
  rw [show (⟨g, pr, was.length, cr, was, pw, W.length, cw, W, pl, L.length, cl, L⟩ : Cs).val = .agg #[.int .i64 g, .slice pr was.length cr, .slice pw W.length cw, .slice pl L.length cl] from rfl]
  obtain ⟨W0, hW0⟩ : ∃ W0, W0 = w.alloc (.cells #[.int .i64 g, .slice pr was.length cr, .slice pw W.length cw, .slice pl L.length cl] 27) := ⟨_, rfl⟩
  have hb0 : Below w.heap.size w W0 := by rw [hW0]; exact (Below.refl _ _).alloc (Nat.le_refl _) _
  have hA0 : CsAt W0 w.heap.size c := by rw [hW0, hcdef]; exact CsAt.new w ⟨g, pr, was.length, cr, was, pw, W.length, cw, W, pl, L.length, cl, L⟩ _
  have HGr := Lib.hid (great_any' c W0)
  rw [hcdef] at HGr
  have HRi := Lib.hid (r4.below hb0)
  have HWi := Lib.hid (w4.below hb0)
  have HLi := Lib.hid (l4.below hb0)
  have HB0 := Lib.hid hb0
  have HA0 := Lib.hid hA0
  have hgl := great_ways c
  rw [hcdef] at hgl hA0 HA0
  clear hcdef
  generalize hcc : (⟨g, pr, was.length, cr, was, pw, W.length, cw, W, pl, L.length, cl, L⟩ : Cs) = c at hgl HGr
  have e1 : c.nr = was.length := by rw [← hcc]
  have e2 : c.nw = W.length := by rw [← hcc]
  have e3 : c.nl = L.length := by rw [← hcc]
  have hlens : greatB c = false → was.length ≤ 80 ∧ W.length ≤ 80 ∧ L.length ≤ 80 := fun h => by
    rcases hgl with ⟨o, -⟩ | ⟨o, -⟩ | ⟨o, -⟩ | ⟨-, a, b, d⟩
    · rw [o] at h; cases h
    · rw [o] at h; cases h
    · rw [o] at h; cases h
    · have a := of_decide_eq_false a; have b := of_decide_eq_false b; have d := of_decide_eq_false d; omega
  clear hgl hb0 r4 w4 l4
  obtain ⟨c0, c1, c2, c3⟩ := hA0
  replace HGr : Hid (Calls Try.prog 10 #[.agg #[.int .i64 g, .slice pr was.length cr, .slice pw W.length cw, .slice pl L.length cl]] W0 fun e w' => e = .returned (.bool (greatB c)) ∧ Below W0.heap.size W0 w') := Lib.hid (by have := HGr.out; rw [← hcc] at this ⊢; exact this)
  clear hcc e1 e2 e3
  cases hg : greatB c
  case true =>
    rw [hg] at HGr
    clear hlens hg
    go_enter Try.func4, Try.ntmps4
    go_upto_region 1 with fail
    rw [← hW0]
    clear hW0
    go_wp2_with fail
    refine (HGr.out).mono ?_
    rintro e w5 ⟨rfl, hb5⟩
    go_wp2_with fail
    refine (awake_any _).mono ?_
    rintro e w6 ⟨rfl, hb6⟩
    have hk := hb5.trans (hb6.mono hb5.size)
    go_wp2
    go_ret
    exact ⟨rfl, HB0.out.trans (hk.mono HB0.out.size)⟩
  case false =>
  rw [hg] at HGr
  obtain ⟨n1, n2, n3⟩ := hlens hg
  clear hlens hg r2 w2 l2 c
  obtain ⟨T, hT⟩ : ∃ T, T = tabF was := ⟨_, rfl⟩
  have hTz : SzI T := by rw [hT]; exact tab_sz r3
  obtain ⟨hTu, hTl, -⟩ := tab_facts was [] List.Pairwise.nil
  have hTl2 : T.length ≤ 80 := by rw [hT]; unfold tabF; simp at hTl; omega
  replace hTu : UqI T := by rw [hT]; exact hTu
  have HT := Lib.hid hT
  clear hTl hT
  go_enter Try.func4, Try.ntmps4
  go_upto_region 1 with fail
  rw [← hW0]
  clear hW0
  go_wp2_with fail
  refine (HGr.out).mono ?_
  rintro e w5 ⟨rfl, hb5⟩
  obtain ⟨c0, c1, c2, c3⟩ := HA0.out.below hb5
  have HTb := Lib.hid (table_any pr cr was w5 (by omega) r3 (HRi.out.below hb5))
  go_wp2_with fail
  refine (HTb.out).mono ?_
  rintro e w6 ⟨⟨v1, b1, rfl, hO6, hM6, hb1⟩, hb6⟩
  rw [← HT.out] at hO6 hM6
  clear HTb HGr
  have hk6 := s_trans hb5 hb6
  obtain ⟨c0, c1, c2, c3⟩ := HA0.out.below hk6
  obtain ⟨p1, k1, rfl, hls6⟩ := hO6.ls
  have HTk := Lib.hid (take_any g (some b1) T pw cw W pl cl L w6 (by omega) (by omega) (by omega) w3 l3 (.inr ⟨b1, rfl, hM6⟩) (HWi.out.below hk6) (HLi.out.below hk6))
  have HK6 := Lib.hid hk6
  have HL6 := Lib.hid hls6
  clear hb5 hb6 hk6 hO6 hM6 hls6
  go_wp2_with fail
  refine (HTk.out).mono ?_
  rintro e w7 ⟨hc7, hb7⟩
  clear HTk
  have HK7 := Lib.hid (s_trans HK6.out hb7)
  have HL7 := Lib.hid (HL6.out.below hb7)
  obtain ⟨c0, c1, c2, c3⟩ := HA0.out.below HK7.out
  clear HK6 HL6 hb7
  have hout := (out_len (g := g) (was := T) (L := L) W (0, g, [], [])).1
  change (takeF g T L W).2.2.2.length ≤ 0 + W.length at hout
  rcases hc7 with ⟨hE, rfl⟩ | ⟨hE, v8, b8, rfl, hO8, hM8, hb8⟩
  · have dE : (takeE g T W L != 0) = true := by simpa using hE
    clear hE HL7
    generalize takeE g T W L = E at *
    go_wp2_with fail
    refine (awake_any _).mono ?_
    rintro e w11 ⟨rfl, hb11⟩
    have HK11 := Lib.hid (s_trans HK7.out hb11)
    clear hb11
    go_wp2
    go_ret
    exact ⟨rfl, HB0.out.trans (HK11.out.mono HB0.out.size)⟩
  · obtain ⟨f1, f2, f3, f4⟩ := takeE_ok hE
    have hgf := fitsB_iff.1 f1
    obtain ⟨s1, s2, s3⟩ := out_sum g T L W hgf.2
    obtain ⟨-, hpos, -⟩ := out_ok g T L W
    have HCD := Lib.hid (fun s => by have := cd_fold f2 f4 s W.length (Nat.le_refl _); rwa [List.take_length] at this)
    have HTH := Lib.hid (fun s => (then_is (takeF g T L W).2.2.1 T (here_uq g T L W (0, g, [], []) List.Pairwise.nil) s).2)
    have HMN := Lib.hid (fun (l : Lm) (hl : l ∈ L) (hm : l.2.1 = 0) => most_none (g := g) (was := T) (W := W) f1 f2 f4 hl hm)
    have HRT := Lib.hid (fun k hk => (chk_right f2 (k := k) hk).2.2)
    have HFW := Lib.hid (fun k hk => (take_ok f4 (k := k) hk).2.1)
    have HFT := Lib.hid (fun k hk => (take_ok f4 (k := k) hk).2.2.1)
    have HIN : Hid (∀ s, atI (takeF g T L W).2.2.1 s ≤ 1125899906842624) := Lib.hid (fun s => by
      have hi := inv_at (g := g) (was := T) (W := W) f1 f2 W.length (Nat.le_refl _) (by rw [List.take_length]; exact f4)
      rw [List.take_length] at hi
      have := (hi.2 s).2.1
      omega)
    obtain ⟨p8, k8, rfl, hls8⟩ := hO8.ls
    have HS := Lib.hid (bSum_any p8 k8 (takeF g T L W).2.2.2 w7 (by omega) hls8)
    rw [s1] at HS
    unfold CdOk at HCD
    generalize takeF g T L W = st at *
    obtain ⟨er, left, here, O⟩ := st
    dsimp only at *
    have HLS := Lib.hid hls8
    have HM8 := Lib.hid hM8
    have hSg : sumI O ≤ max 0 g := s3
    have dS : decide (max 0 g < sumI O) = false := decide_eq_false (by omega)
    have HPO := Lib.hid (fun s k => codeI_bd (O.take k) s (fun p hp => by have := hpos p (List.mem_of_mem_take hp); omega))
    have HSP := Lib.hid (sum_pos O (fun p hp => by have := hpos p hp; omega))
    have HPW : Hid (∀ s k, 0 ≤ wantI (W.take k) s ∧ wantI (W.take k) s ≤ 80 * 2251799813685248) := Lib.hid (fun s k => by
      have h1 := wantI_bd (W.take k) s (fun p hp => by
        obtain ⟨j, hj, e⟩ := List.mem_iff_getElem.1 (List.mem_of_mem_take hp)
        have := HFW.out j hj
        rw [List.getD_eq_getElem?_getD, List.getElem?_eq_getElem hj] at this
        rw [← e]; exact (fit0_iff.1 this).1)
      have h2 : (W.take k).length ≤ 80 := by simp; omega
      have h3 : ((W.take k).length : Int) * 2251799813685248 ≤ 80 * 2251799813685248 := by omega
      exact ⟨h1.1, by omega⟩)
    clear hO8 hM8 hls8 s1 hpos f1 f2 f3 f4 hE
    go_wp2_with fail
    refine (HS.out).mono ?_
    rintro e w8 ⟨rfl, hb8'⟩
    have HK8 := Lib.hid (s_trans HK7.out hb8')
    have HL8 := Lib.hid (HL7.out.below hb8')
    have HO8 := Lib.hid (HLS.out.below hb8')
    have HM9 := Lib.hid (HM8.out.below hb8')
    have HA8 := Lib.hid (HA0.out.below HK8.out)
    clear HS HK7 HL7 HLS HM8 hb8' c0 c1 c2 c3
    obtain ⟨c0, c1, c2, c3⟩ := HA8.out
    dsimp only at c0 c1 c2 c3
    go_wp2
    clear c0 c1 c2 c3
    have HWi8 := Lib.hid (HWi.out.below HK8.out)
    have HLi8 := Lib.hid (HLi.out.below HK8.out)
    clear HWi HLi HRi HA0
    go_loopw [10] (fun iv wr => ∃ i : Nat, i ≤ W.length ∧ iv = .int .i64 i ∧ Hid (Below w8.heap.size w8 wr)) (fun iv _ => W.length - (RowKit.intOf iv).toNat)
    case atStart => exact ⟨0, Nat.zero_le _, rfl, Lib.hid (Below.refl _ _)⟩
    case round =>
      rename World => wq
      obtain ⟨i, hi, rfl, HB⟩ := hrel
      obtain ⟨c0, c1, c2, c3⟩ := HA8.out.below HB.out
      dsimp only at c0 c1 c2 c3
      by_cases hlt : i < W.length
      case neg =>
        clear HCD HTH HMN HRT HFW HFT HIN HPO HSP HPW
        go_wp2_with fail
        refine (awake_any _).mono ?_
        rintro e w11 ⟨rfl, hb11⟩
        have HK11 := Lib.hid (s_trans HK8.out (s_trans HB.out hb11))
        clear hb11
        go_wp2
        go_ret
        exact ⟨rfl, HB0.out.trans (HK11.out.mono HB0.out.size)⟩
      case pos =>
        have hat9 := fun k hk => ItIn.at (ItLs.below HWi8.out HB.out) (j := k) hk
        obtain ⟨bw, ow, hpw, hbw, d0', d1'⟩ := hat9 i hlt
        subst hpw
        have HATW := Lib.hid (fun k (hk : k < W.length) => by
          obtain ⟨b', o', h1, h2, h3, h4⟩ := hat9 k hk
          cases h1
          exact And.intro h3 h4)
        clear hat9 d1'
        have hsz := w3 i hlt
        have HFTi := Lib.hid (HFT.out i hlt)
        generalize (W.getD i d0).1 = s at d0' hsz HFTi
        obtain ⟨q1, q2, q3, q4⟩ := HCD.out s
        have q5 := HTH.out s
        have q6 := HIN.out s
        have hlkA := fun V (hV : Below w8.heap.size w8 V) => by
          have := (HM9.out.below hV).look Try.underlying30 (zCt V) hsz
          rw [vT_lk, q5] at this
          exact this
        have HAT := Lib.hid (fun V (hV : Below w8.heap.size w8 V) => at_any p1 k1 T s V (by omega) (HL8.out.below hV))
        obtain ⟨t0, t1⟩ := fit0_iff.1 HFTi.out
        have HQ4 := Lib.hid q4
        have HQ1 := Lib.hid q1
        obtain ⟨ta, hta⟩ : ∃ ta, ta = atI T s := ⟨_, rfl⟩
        obtain ⟨t, ht⟩ : ∃ t, t = atI here s := ⟨_, rfl⟩
        rw [← hta] at HAT t0 t1
        rw [← hta, ← ht] at HQ4
        rw [← ht] at HQ1 q2 q3 q6
        replace hlkA : ∀ V, Below w8.heap.size w8 V → (Instr.lookup 30 (.map (some b8)) (.string s) false).run Try.prog V = .ok (.int .i64 (ta + t)) V := by rw [hta, ht]; exact hlkA
        have HLK := Lib.hid hlkA
        have HMS : Hid (∀ l ∈ L, l.1 = s → l.2.1 = 0 → t ≤ 0) := Lib.hid (fun l hl e hm => by rw [ht, ← e]; exact HMN.out l hl hm)
        have hQ3 := Lib.hid q3
        have i2 : (i : Int) < (W.length : Int) := by omega
        clear q1 q3 q4 q5 hlkA hta ht HFTi hsz
        go_wp2
        go_loopw [12, 14] (fun sv iv wr => ∃ k : Nat, ∃ y : Int, k ≤ O.length ∧ sv = .int .i64 y ∧ iv = .int .i64 k ∧ Hid (y = codeI (O.take k) s) ∧ Hid (wq = wr)) (fun _ iv _ => O.length - (RowKit.intOf iv).toNat)
        case atStart => exact ⟨0, 0, Nat.zero_le _, rfl, rfl, Lib.hid rfl, Lib.hid rfl⟩
        case round =>
          obtain ⟨k, y, hk, rfl, rfl, HY, HWW⟩ := hrel
          obtain rfl := HWW.out
          by_cases hkl : k < O.length
          case pos =>
            obtain ⟨b5, o5, hp5, hb5, g0', g1'⟩ := ItIn.at (ItLs.below HO8.out HB.out) hkl
            subst hp5
            have hca := codeI_at O hkl s
            have hp1 := HPO.out s (k + 1)
            have hp2 := HPO.out s k
            have hp3 := HSP.out (k + 1)
            have hp4 := HSP.out k
            have hy := HY.out
            have i3 : (k : Int) < (O.length : Int) := by omega
            generalize O.getD k d0 = it at g0' g1' hca
            obtain ⟨u, cc⟩ := it
            dsimp only at g0' g1' hca
            by_cases e : u = s
            · subst e
              rw [if_pos rfl] at hca
              have HY2 : Hid (y + cc = codeI (O.take (k + 1)) u) := Lib.hid (by omega)
              have z0 : 0 ≤ y := by omega
              have z1 : y + cc ≤ 9223372036854775807 := by omega
              have z2 : 0 ≤ y + cc := by omega
              clear hca hp1 hp2 hp3 hp4 hy HY
              go_wp2
              exact ⟨⟨k + 1, _, by omega, rfl, by go_num, HY2, Lib.hid trivial⟩, by simp [RowKit.intOf]; omega⟩
            · rw [if_neg e, Int.add_zero] at hca
              have HY2 : Hid (y = codeI (O.take (k + 1)) s) := Lib.hid (by omega)
              have d1 := ne_list e
              clear hca hp1 hp2 hp3 hp4 hy HY
              go_wp2
              exact ⟨⟨k + 1, _, by omega, rfl, by go_num, HY2, Lib.hid trivial⟩, by simp [RowKit.intOf]; omega⟩
          case neg =>
            obtain rfl : k = O.length := by omega
            have hyt : y = t := by have := HY.out; rw [List.take_length, HQ1.out] at this; exact this
            subst hyt
            clear HY
            go_wp2
            go_loopw [13, 15] (fun sv iv wr => ∃ k : Nat, ∃ x : Int, k ≤ W.length ∧ sv = .int .i64 x ∧ iv = .int .i64 k ∧ Hid (x = wantI (W.take k) s) ∧ Hid (wq = wr)) (fun _ iv _ => W.length - (RowKit.intOf iv).toNat)
            case atStart => exact ⟨0, 0, Nat.zero_le _, rfl, rfl, Lib.hid rfl, Lib.hid rfl⟩
            case round =>
              obtain ⟨k, x, hk, rfl, rfl, HY, HWW⟩ := hrel
              obtain rfl := HWW.out
              by_cases hkl : k < W.length
              case pos =>
                obtain ⟨g0', g1'⟩ := HATW.out k hkl
                have hca := wantI_at W hkl s
                have hp1 := HPW.out s (k + 1)
                have hp2 := HPW.out s k
                have hff := fit0_iff.1 (HFW.out k hkl)
                have hy := HY.out
                have i3 : (k : Int) < (W.length : Int) := by omega
                generalize W.getD k d0 = it at g0' g1' hca hff
                obtain ⟨u, cc⟩ := it
                dsimp only at g0' g1' hca hff
                by_cases e : u = s
                · subst e
                  rw [if_pos rfl] at hca
                  have HY2 : Hid (x + min cc 2251799813685248 = wantI (W.take (k + 1)) u) := Lib.hid (by omega)
                  have z0 : 0 ≤ x := by omega
                  have z1 : x + min cc 2251799813685248 ≤ 9223372036854775807 := by omega
                  have z2 : 0 ≤ x + min cc 2251799813685248 := by omega
                  clear hca hp1 hp2 hy HY hff
                  go_wp2
                  exact ⟨⟨k + 1, _, by omega, rfl, by go_num, HY2, Lib.hid trivial⟩, by simp [RowKit.intOf]; omega⟩
                · rw [if_neg e, Int.add_zero] at hca
                  have HY2 : Hid (x = wantI (W.take (k + 1)) s) := Lib.hid (by omega)
                  have d1 := ne_list e
                  clear hca hp1 hp2 hy HY hff
                  go_wp2
                  exact ⟨⟨k + 1, _, by omega, rfl, by go_num, HY2, Lib.hid trivial⟩, by simp [RowKit.intOf]; omega⟩
              case neg =>
                obtain rfl : k = W.length := by omega
                have hxw : y ≤ x := by have := HY.out; rw [List.take_length] at this; rw [this]; exact hQ3.out
                have dxy : decide (x < y) = false := decide_eq_false (by omega)
                have hlkn : ∀ n, (Instr.lookup 30 (.map (some b8)) (.string s) false).run Try.prog (wq.drewN n) = .ok (.int .i64 (ta + y)) (wq.drewN n) := fun n => HLK.out _ (below_drewN HB.out n)
                have HAN := Lib.hid (fun n => HAT.out (wq.drewN n) (below_drewN HB.out n))
                clear HY
                go_upto_region 25 with fail
                go_quiet (first | (go_at_call 18; exact Calls.quiet_of_same ((HAN.out _).mono fun _ _ h => ⟨h.1, h.2.symm⟩)))
                have HBD := Lib.hid (below_drewN HB.out nq)
                generalize wq.drewN nq = wd at HBD ⊢
                clear hlkn HAN HAT HATW hQ3 HPO HSP HPW HFW HFT HIN HCD HTH HMN HQ1 dxy hxw c0 c1 c2 c3 d0'
                go_wp2
                go_loopw [16] (fun iv wr => ∃ j : Nat, j ≤ L.length ∧ iv = .int .i64 j ∧ Hid (Below w8.heap.size w8 wr)) (fun iv _ => L.length - (RowKit.intOf iv).toNat)
                case atStart => exact ⟨0, Nat.zero_le _, rfl, HBD⟩
                case round =>
                  clear HBD
                  rename World => wz
                  obtain ⟨j, hj, rfl, HBJ⟩ := hrel
                  obtain ⟨c0, c1, c2, c3⟩ := HA8.out.below HBJ.out
                  dsimp only at c0 c1 c2 c3
                  by_cases hjl : j < L.length
                  case neg =>
                    clear HQ4 HLK HMS
                    go_wp2
                    exact ⟨⟨i + 1, by omega, by go_num, HBJ⟩, by simp [RowKit.intOf]; omega⟩
                  case pos =>
                    obtain ⟨bl, ol, hpl, hbl, g0', g1', g2'⟩ := LmLs.at (LmLs.below HLi8.out HBJ.out) hjl
                    subst hpl
                    have hq4 := HQ4.out (L.getD j dL) (getD_mem L dL hjl)
                    have hms := HMS.out (L.getD j dL) (getD_mem L dL hjl)
                    have hok := HRT.out j hjl
                    generalize L.getD j dL = l at g0' g1' g2' hq4 hms hok
                    obtain ⟨u, m, yy⟩ := l
                    dsimp only at g0' g1' g2' hq4 hms
                    simp only [okLm, Bool.and_eq_true] at hok
                    obtain ⟨m0, m1⟩ := partB_iff.1 hok.1
                    obtain ⟨y0, y1⟩ := fit0_iff.1 hok.2
                    have i3 : (j : Int) < (L.length : Int) := by omega
                    obtain ⟨W1, hW1⟩ : ∃ W1, W1 = wz.alloc (.cells #[.string u, .int .i64 m, .int .i64 yy] 47) := ⟨_, rfl⟩
                    have hk1 : Below wz.heap.size wz W1 := by rw [hW1]; exact (Below.refl _ _).alloc (Nat.le_refl _) _
                    have e0 : W1.cell? ⟨wz.heap.size, 0, none⟩ = some (.string u) := by rw [hW1, World.cell?_alloc_new]; rfl
                    have e1 : W1.cell? ⟨wz.heap.size, 1, none⟩ = some (.int .i64 m) := by rw [hW1, World.cell?_alloc_new]; rfl
                    have e2 : W1.cell? ⟨wz.heap.size, 2, none⟩ = some (.int .i64 yy) := by rw [hW1, World.cell?_alloc_new]; rfl
                    have HB1 := Lib.hid (s_trans HBJ.out hk1)
                    have hlk := HLK.out W1 HB1.out
                    clear hk1 hok
                    by_cases e : u = s
                    case neg =>
                      have d1 := ne_list e
                      clear hq4 hms hlk
                      go_upto_region 31 with fail
                      rw [← hW1]
                      clear hW1
                      go_wp2
                      exact ⟨⟨j + 1, by omega, by go_num, HB1⟩, by simp [RowKit.intOf]; omega⟩
                    case pos =>
                      subst e
                      rcases lim_ways y (ta + y) m yy (fun h1 h2 => hq4 rfl h1 h2) (fun h => hms rfl h) y0 with ⟨a1, a2, a3⟩ | ⟨a1, a2, a3⟩ | ⟨a1, a2, a3⟩ | ⟨a1, a2, a3⟩ | ⟨a1, a2, a3⟩ | ⟨a1, a2, a3, a4⟩
                      all_goals
                        clear hq4 hms
                        go_upto_region 31 with fail
                        rw [← hW1]
                        clear hW1
                        go_wp2
                        exact ⟨⟨j + 1, by omega, by go_num, HB1⟩, by simp [RowKit.intOf]; omega⟩

end Go.Proofs.Ytaeldoipflcknaa
