/-
  What is proved: the contract of the document's All. Conditions: the text is shorter than a million bytes.
-/
import Derived.Test.YtlfcmelencdghaaDoorLxL
import Derived.Test.YtlfcmelencdghaaDoorLxG
namespace Go.Proofs.YtlfcmelencdghaaDoor
open Go Go.RowKit Go.Lib Go.Proofs
set_option linter.unusedVariables false

theorem infoRTok : (Tryd.prog.info? 33).map (fun i => (i.zero, i.size, i.bytes)) = some (some (.agg #[.int .i64 0, .string ⟨#[]⟩, .int .i64 0]), 3, 32) := by kernel_rfl
theorem blank_step {s : ByteArray} {a : Nat} (ha : a < s.size) (h : isBl s[a] = true) : lexL a (s.data.toList.drop a) = lexL (a + 1) (s.data.toList.drop (a + 1)) := by
  rw [drop_cons ha, lexL_blank h]
/-- A word that is right, put behind the others. -/
theorem step_ok {s : ByteArray} {a n : Nat} {t : Int} {A : Ans} {L : List To} (ha : a < s.size) (hb : isBl s[a] = false) (ht : tok (s.data.toList.drop a) = ⟨t, n, 0⟩) (hA : A = catA L (lexL a (s.data.toList.drop a))) :
    A = catA (L ++ [⟨t, (s.data.toList.drop a).take n, a⟩]) (lexL (a + n) (s.data.toList.drop (a + n))) ∧ 0 < n ∧ a + n ≤ s.size := by
  have h := (lex_step ha hb).2
  have ho := tok_ok (l := s.data.toList.drop a)
  rw [ht] at h ho
  have h2 := ho rfl
  rw [List.length_drop, size_len] at h2
  refine ⟨?_, h2.1, by have := h2.2; dsimp only at this; omega⟩
  rw [hA, h rfl, catA_cat]
theorem step_bad {s : ByteArray} {a n : Nat} {t e : Int} {A : Ans} {L : List To} (ha : a < s.size) (hb : isBl s[a] = false) (ht : tok (s.data.toList.drop a) = ⟨t, n, e⟩) (he : e ≠ 0) (hA : A = catA L (lexL a (s.data.toList.drop a))) :
    A = ⟨[], a + n, e⟩ := by
  have h := (lex_step ha hb).1
  rw [ht] at h
  rw [hA, h he]; unfold catA; rw [if_neg he]
theorem lt_inner {b : UInt8} (h : isLt b = true) : isIn b = true := by simp [isIn, h]
/-- The cells of a word put behind others. -/
theorem own_next {w : World} {base : Nat} {E : TypeId} {v : Value} {L : List To} {k : Int} {s : ByteArray} {a m : Nat} (h : w.ownsRow base E 3 v (L.length + 1) (tkC L ++ [.int .i64 k, .string (s.extract a (a + m)), .int .i64 (a : Int)])) :
    w.ownsRow base E 3 v (L ++ [(⟨k, (s.data.toList.drop a).take m, a⟩ : To)]).length (tkC (L ++ [⟨k, (s.data.toList.drop a).take m, a⟩])) := by
  rw [ext_eq] at h
  rw [tkC_app, List.length_append]
  exact h

set_option maxHeartbeats 4000000 in
set_option maxRecDepth 100000 in
theorem refAll_any (s : ByteArray) (hs : s.size ≤ 1000000) (w : World) :
    Calls Tryd.prog 10 #[.string s] w (AllOk 33 (lexS s.data.toList) w) := by
  unfold lexS
  rw [size_len]
  by_cases h1 : 4096 < s.size
  · rw [if_pos h1]
    have i1 : (4096 : Int) < (s.size : Int) := by omega
    go_enter Tryd.func10, Tryd.ntmps10
    go_wp2
    go_ret3
    exact ⟨none, 0, 0, rfl, rfl, World.ownsRow_nil _ _ _ _, Below.refl _ _⟩
  · rw [if_neg h1]
    have i1 : ¬ (4096 : Int) < (s.size : Int) := by omega
    have HZ := Lib.hid hs
    have hs2 : (s.size : Int) ≤ 4096 := by omega
    obtain ⟨A, hA⟩ : ∃ A, A = lexL 0 s.data.toList := ⟨_, rfl⟩
    rw [← hA]
    have HA := Lib.hid hA
    clear hA h1 hs
    go_enter Tryd.func10, Tryd.ntmps10
    go_wp2
    go_loopw [5, 6] (fun v av wr => ∃ (a : Nat) (q : Value) (L : List To), a ≤ s.size ∧ av = .int .i64 a ∧ q = v ∧ L.length ≤ a ∧ Hid (A = catA L (lexL a (s.data.toList.drop a))) ∧ Hid (wr.ownsRow w.heap.size 33 3 q L.length (tkC L)) ∧ Below w.heap.size w wr) (fun _ av _ => s.size - (RowKit.intOf av).toNat)
    case atStart => exact ⟨0, _, [], by omega, rfl, rfl, by simp, Lib.hid (by rw [catA_nil _ (fun h => (lexL_err _ _ _ (Nat.le_refl _)).1 h)]; exact HA.out), Lib.hid (World.ownsRow_nil _ _ _ _), Below.refl _ _⟩
    case round =>
      clear HA
      obtain ⟨a, q, L, ha, rfl, rfl, hL, HA, HO, hb⟩ := hrel
      by_cases hlt : a < s.size
      · have ia : (a : Int) < (s.size : Int) := by omega
        cases hbl : isBl s[a]
        case true =>
          have h32 : s[a].toNat = 32 := by simpa [isBl] using hbl
          have HA2 : Hid (A = catA L (lexL (a + 1) (s.data.toList.drop (a + 1)))) := Lib.hid (by rw [HA.out, blank_step hlt hbl])
          clear HA hbl
          go_wp2
          go_roundw
          case rel => exact ⟨a + 1, q, L, by omega, by go_num, rfl, by omega, HA2, HO, hb⟩
          case measure => simp [RowKit.intOf]; omega
        case false =>
          have h32 : ¬ s[a].toNat = 32 := by simpa [isBl] using hbl
          have HL := Lib.hid (fun W => letter_any s[a] W)
          have HD := Lib.hid (fun W => digit_any s[a] W)
          have HG := Lib.hid (fun W => sign_any s[a] W)
          have HB := Lib.hid hbl
          have hcons := drop_cons hlt
          clear hbl
          have hT := tok_cons s[a] (s.data.toList.drop (a + 1))
          rw [← hcons] at hT
          cases hl : isLt s[a]
          case true =>
            rw [hl] at HL hT
            rw [if_pos rfl] at hT
            have hrun : runL isIn (s.data.toList.drop a) = 1 + runL isIn (s.data.toList.drop (a + 1)) := by rw [hcons]; simp [runL, lt_inner hl]; omega
            clear HD HG hcons hl
            obtain ⟨R, hR⟩ : ∃ R, R = runL isIn (s.data.toList.drop a) := ⟨_, rfl⟩
            rw [← hR] at hT hrun
            have HT := Lib.hid hT
            have HR := Lib.hid hrun
            clear hT hR hrun
            go_wp2_with fail
            refine (HL.out _).mono ?_
            rintro e w1 ⟨rfl, rfl⟩
            go_wp2
            go_loop [8] (fun nv => ∃ n : Nat, 1 ≤ n ∧ a + n ≤ s.size ∧ nv = .int .i64 n ∧ Hid (R = n + runL isIn (s.data.toList.drop (a + n)))) (fun nv => s.size - a - (RowKit.intOf nv).toNat)
            case atStart => exact ⟨1, by omega, by omega, rfl, HR⟩
            case round =>
              clear HR
              obtain ⟨n, hn1, hn, rfl, HR⟩ := hrel
              by_cases hlt2 : a + n < s.size
              · have hrd := Lib.hid (run_drop (p := isIn) hlt2)
                have hCall := Lib.hid (fun W => inner_any s[a + n] W)
                have k2 : (a : Int) + (n : Int) < (s.size : Int) := by omega
                cases hp : isIn s[a + n]
                case true =>
                  rw [hp] at hCall
                  have HR2 : Hid (R = (n + 1) + runL isIn (s.data.toList.drop (a + (n + 1)))) := Lib.hid (by rw [HR.out, hrd.out, hp, show a + (n + 1) = a + n + 1 by omega]; simp; omega)
                  clear hp
                  go_wp2_with fail
                  refine (hCall.out _).mono ?_
                  rintro e w1 ⟨rfl, rfl⟩
                  go_wp2
                  go_round
                  case rel => exact ⟨n + 1, by omega, by omega, by go_num, HR2⟩
                  case measure => simp [RowKit.intOf]; omega
                case false =>
                  rw [hp] at hCall
                  obtain rfl : R = n := by rw [HR.out, hrd.out, hp]; simp
                  clear hp hrd HR
                  by_cases h33 : 32 < R
                  · have hT := HT.out
                    rw [if_pos h33] at hT
                    have hA2 := step_bad hlt HB.out hT (by decide) HA.out
                    rw [Nat.add_zero] at hA2
                    have d3 : (32 : Int) < (R : Int) := by omega
                    clear hT HA HT h33
                    subst hA2
                    go_wp2_with fail
                    refine (hCall.out _).mono ?_
                    rintro e w1 ⟨rfl, rfl⟩
                    go_wp2
                    go_ret3
                    exact ⟨none, 0, 0, rfl, rfl, World.ownsRow_nil _ _ _ _, hb⟩
                  · have hT := HT.out
                    rw [if_neg h33] at hT
                    obtain ⟨hA2, hn2, hn3⟩ := step_ok hlt HB.out hT HA.out
                    have d3 : ¬ (32 : Int) < (R : Int) := by omega
                    clear hT HA HT h33
                    have HA2 := Lib.hid hA2
                    have k3 : (a : Int) ≤ (a : Int) + (R : Int) := by omega
                    have k4 : (a : Int) + (R : Int) ≤ (s.size : Int) := by omega
                    have hG := hb.size
                    obtain ⟨v', w3, hr, ho, hg, hv'⟩ := app_new Tryd.underlying30 infoRTok rfl (by omega) (by omega) w.heap.size 30 wr _ L.length _ HO.out 1 [.int .i64 1, .string (s.extract a (a + R)), .int .i64 (a : Int)] rfl (fun u hu => by simp at hu; rcases hu with rfl | rfl | rfl <;> rfl) (by omega) hb.size
                    have hb4 : Below w.heap.size w w3 := (hb.alloc hb.size _).grown hg (by simp; omega) (fun k hk => (HO.out.lt k hk).1)
                    have HO3 := Lib.hid (own_next ho)
                    have R1 := Lib.hid hr
                    clear hr ho hg hv' hA2 hG
                    go_wp2_with fail
                    refine (hCall.out _).mono ?_
                    rintro e w1 ⟨rfl, rfl⟩
                    go_wp2_with (at_builtin; refine Lib.wpList_append_run _ rfl _ _ 30 30 rfl _ _ rfl rfl v' w3 (R1.out) ?_)
                    go_roundw
                    case rel => exact ⟨a + R, v', L ++ [⟨1, (s.data.toList.drop a).take R, a⟩], by omega, by go_num, rfl, by simp; omega, HA2, HO3, hb4⟩
                    case measure => simp [RowKit.intOf]; omega
              · obtain rfl : R = n := by rw [HR.out, run_end (by omega)]; omega
                have k2 : ¬ (a : Int) + (R : Int) < (s.size : Int) := by omega
                clear HR
                by_cases h33 : 32 < R
                · have hT := HT.out
                  rw [if_pos h33] at hT
                  have hA2 := step_bad hlt HB.out hT (by decide) HA.out
                  rw [Nat.add_zero] at hA2
                  have d3 : (32 : Int) < (R : Int) := by omega
                  clear hT HA HT h33
                  subst hA2
                  go_wp2
                  go_ret3
                  exact ⟨none, 0, 0, rfl, rfl, World.ownsRow_nil _ _ _ _, hb⟩
                · have hT := HT.out
                  rw [if_neg h33] at hT
                  obtain ⟨hA2, hn2, hn3⟩ := step_ok hlt HB.out hT HA.out
                  have d3 : ¬ (32 : Int) < (R : Int) := by omega
                  clear hT HA HT h33
                  have HA2 := Lib.hid hA2
                  have k3 : (a : Int) ≤ (a : Int) + (R : Int) := by omega
                  have k4 : (a : Int) + (R : Int) ≤ (s.size : Int) := by omega
                  have hG := hb.size
                  obtain ⟨v', w3, hr, ho, hg, hv'⟩ := app_new Tryd.underlying30 infoRTok rfl (by omega) (by omega) w.heap.size 30 wr _ L.length _ HO.out 1 [.int .i64 1, .string (s.extract a (a + R)), .int .i64 (a : Int)] rfl (fun u hu => by simp at hu; rcases hu with rfl | rfl | rfl <;> rfl) (by omega) hb.size
                  have hb4 : Below w.heap.size w w3 := (hb.alloc hb.size _).grown hg (by simp; omega) (fun k hk => (HO.out.lt k hk).1)
                  have HO3 := Lib.hid (own_next ho)
                  have R1 := Lib.hid hr
                  clear hr ho hg hv' hA2 hG
                  go_wp2_with (at_builtin; refine Lib.wpList_append_run _ rfl _ _ 30 30 rfl _ _ rfl rfl v' w3 (R1.out) ?_)
                  go_roundw
                  case rel => exact ⟨a + R, v', L ++ [⟨1, (s.data.toList.drop a).take R, a⟩], by omega, by go_num, rfl, by simp; omega, HA2, HO3, hb4⟩
                  case measure => simp [RowKit.intOf]; omega
          case false =>
            rw [hl] at HL hT
            rw [if_neg (by simp)] at hT
            cases hd : isDg s[a]
            case true =>
              rw [hd, if_pos rfl] at hT
              rw [hd] at HD
              have HN := number_any s HZ.out a hlt hd
              unfold numR at HN
              clear HG hcons hl hd
              cases hbad : badE (s.data.toList.drop a)
              case true =>
                rw [hbad, if_pos rfl] at hT
                rw [hbad] at HN
                simp only [if_true] at HN
                have hA2 := step_bad hlt HB.out hT (by decide) HA.out
                obtain ⟨z, hz⟩ : ∃ z, z = a + badP (s.data.toList.drop a) := ⟨_, rfl⟩
                rw [← hz] at hA2
                rw [if_neg (show ¬ (3 : Int) = 0 by decide)] at HN
                have HN := Lib.hid (fun W => HN W)
                rw [← hz] at HN
                clear hT hbad HA hz
                subst hA2
                go_wp2_with fail
                refine (HL.out _).mono ?_
                rintro e w1 ⟨rfl, rfl⟩
                go_wp2_with fail
                refine (HD.out _).mono ?_
                rintro e w1 ⟨rfl, rfl⟩
                go_wp2_with fail
                refine (HN.out _).mono ?_
                rintro e w1 ⟨rfl, rfl⟩
                go_wp2
                go_ret3
                exact ⟨none, 0, 0, rfl, rfl, World.ownsRow_nil _ _ _ _, hb⟩
              case false =>
                rw [hbad, if_neg (by simp)] at hT
                rw [hbad] at HN
                simp only [Bool.false_eq_true, if_false] at HN
                by_cases h18 : 1000000000000000000 < numV (s.data.toList.drop a)
                · rw [if_pos h18] at hT
                  simp only [if_pos h18] at HN
                  have hA2 := step_bad hlt HB.out hT (by decide) HA.out
                  rw [if_neg (show ¬ (2 : Int) = 0 by decide), Nat.add_zero] at HN
                  rw [Nat.add_zero] at hA2
                  have HN := Lib.hid (fun W => HN W)
                  clear hT hbad HA h18
                  subst hA2
                  go_wp2_with fail
                  refine (HL.out _).mono ?_
                  rintro e w1 ⟨rfl, rfl⟩
                  go_wp2_with fail
                  refine (HD.out _).mono ?_
                  rintro e w1 ⟨rfl, rfl⟩
                  go_wp2_with fail
                  refine (HN.out _).mono ?_
                  rintro e w1 ⟨rfl, rfl⟩
                  go_wp2
                  go_ret3
                  exact ⟨none, 0, 0, rfl, rfl, World.ownsRow_nil _ _ _ _, hb⟩
                · rw [if_neg h18] at hT
                  simp only [if_neg h18, if_true] at HN
                  obtain ⟨hA2, hn1, hn⟩ := step_ok hlt HB.out hT HA.out
                  generalize numN (s.data.toList.drop a) = n at HN hA2 hn1 hn
                  generalize ((numV (s.data.toList.drop a) : Nat) : Int) = V at HN
                  have HN := Lib.hid (fun W => HN W)
                  clear hT hbad HA h18
                  have HA2 := Lib.hid hA2
                  have k3 : (a : Int) ≤ (a : Int) + (n : Int) := by omega
                  have k4 : (a : Int) + (n : Int) ≤ (s.size : Int) := by omega
                  have hG := hb.size
                  obtain ⟨v', w3, hr, ho, hg, hv'⟩ := app_new Tryd.underlying30 infoRTok rfl (by omega) (by omega) w.heap.size 30 wr _ L.length _ HO.out 1 [.int .i64 2, .string (s.extract a (a + n)), .int .i64 (a : Int)] rfl (fun u hu => by simp at hu; rcases hu with rfl | rfl | rfl <;> rfl) (by omega) hb.size
                  have hb4 : Below w.heap.size w w3 := (hb.alloc hb.size _).grown hg (by simp; omega) (fun k hk => (HO.out.lt k hk).1)
                  have HO3 := Lib.hid (own_next ho)
                  have R1 := Lib.hid hr
                  clear hr ho hg hv' hA2 hG
                  go_wp2_with fail
                  refine (HL.out _).mono ?_
                  rintro e w1 ⟨rfl, rfl⟩
                  go_wp2_with fail
                  refine (HD.out _).mono ?_
                  rintro e w1 ⟨rfl, rfl⟩
                  go_wp2_with fail
                  refine (HN.out _).mono ?_
                  rintro e w1 ⟨rfl, rfl⟩
                  go_wp2_with (at_builtin; refine Lib.wpList_append_run _ rfl _ _ 30 30 rfl _ _ rfl rfl v' w3 (R1.out) ?_)
                  go_roundw
                  case rel => exact ⟨a + n, v', L ++ [⟨2, (s.data.toList.drop a).take n, a⟩], by omega, by go_num, rfl, by simp; omega, HA2, HO3, hb4⟩
                  case measure => simp [RowKit.intOf]; omega
            case false =>
              rw [hd, if_neg (by simp)] at hT
              rw [hd] at HD
              cases hg : isSg s[a]
              case true =>
                rw [hg, if_pos rfl] at hT
                rw [hg] at HG
                obtain ⟨hA2, hn1, hn⟩ := step_ok hlt HB.out hT HA.out
                clear hT HA hg hd hl hcons
                have HA2 := Lib.hid hA2
                have k3 : (a : Int) ≤ (a : Int) + 1 := by omega
                have k4 : (a : Int) + 1 ≤ (s.size : Int) := by omega
                have hG := hb.size
                obtain ⟨v', w3, hr, ho, hg, hv'⟩ := app_new Tryd.underlying30 infoRTok rfl (by omega) (by omega) w.heap.size 30 wr _ L.length _ HO.out 1 [.int .i64 3, .string (s.extract a (a + 1)), .int .i64 (a : Int)] rfl (fun u hu => by simp at hu; rcases hu with rfl | rfl | rfl <;> rfl) (by omega) hb.size
                have hb4 : Below w.heap.size w w3 := (hb.alloc hb.size _).grown hg (by simp; omega) (fun k hk => (HO.out.lt k hk).1)
                have HO3 := Lib.hid (own_next ho)
                have R1 := Lib.hid hr
                clear hr ho hg hv' hA2 hG
                go_wp2_with fail
                refine (HL.out _).mono ?_
                rintro e w1 ⟨rfl, rfl⟩
                go_wp2_with fail
                refine (HD.out _).mono ?_
                rintro e w1 ⟨rfl, rfl⟩
                go_wp2_with fail
                refine (HG.out _).mono ?_
                rintro e w1 ⟨rfl, rfl⟩
                go_wp2_with (at_builtin; refine Lib.wpList_append_run _ rfl _ _ 30 30 rfl _ _ rfl rfl v' w3 (R1.out) ?_)
                go_roundw
                case rel => exact ⟨a + 1, v', L ++ [⟨3, (s.data.toList.drop a).take 1, a⟩], by omega, by go_num, rfl, by simp; omega, HA2, HO3, hb4⟩
                case measure => simp [RowKit.intOf]; omega
              case false =>
                rw [hg, if_neg (by simp)] at hT
                rw [hg] at HG
                have hA2 := step_bad hlt HB.out hT (by decide) HA.out
                rw [Nat.add_zero] at hA2
                clear hT HA hg hd hl hcons
                subst hA2
                go_wp2_with fail
                refine (HL.out _).mono ?_
                rintro e w1 ⟨rfl, rfl⟩
                go_wp2_with fail
                refine (HD.out _).mono ?_
                rintro e w1 ⟨rfl, rfl⟩
                go_wp2_with fail
                refine (HG.out _).mono ?_
                rintro e w1 ⟨rfl, rfl⟩
                go_wp2
                go_ret3
                exact ⟨none, 0, 0, rfl, rfl, World.ownsRow_nil _ _ _ _, hb⟩
      · obtain rfl : s.size = a := by omega
        have hA2 : A = ⟨L ++ [⟨0, [], s.size⟩], 0, 0⟩ := by
          rw [HA.out, lex_end (Nat.le_refl _)]; unfold catA; rw [if_pos rfl]
        obtain ⟨v', w3, hr, ho, hg, hv'⟩ := app_new Tryd.underlying30 infoRTok rfl (by omega) (by omega) w.heap.size 30 wr _ L.length _ HO.out 1 [.int .i64 0, .string ⟨#[]⟩, .int .i64 (s.size : Int)] rfl (fun u hu => by simp at hu; rcases hu with rfl | rfl | rfl <;> rfl) (by omega) hb.size
        have hb4 : Below w.heap.size w w3 := (hb.alloc hb.size _).grown hg (by simp; have := hb.size; omega) (fun k hk => (HO.out.lt k hk).1)
        obtain ⟨p, c, rfl, hlc⟩ := own_slice ho
        have HO3 := Lib.hid ho
        have R1 := Lib.hid hr
        have HA2 := Lib.hid hA2
        clear hr ho hg hv' HA hA2
        go_wp2_with (at_builtin; refine Lib.wpList_append_run _ rfl _ _ 30 30 rfl _ _ rfl rfl (.slice p (L.length + 1) c) w3 (R1.out) ?_)
        go_ret3
        refine ⟨p, L.length + 1, c, ?_, ?_, ?_, hb4⟩
        · rw [HA2.out]; rfl
        · rw [HA2.out, List.length_append]; rfl
        · have h := HO3.out
          rw [HA2.out, tkC_app, List.length_append]
          exact h

end Go.Proofs.YtlfcmelencdghaaDoor
