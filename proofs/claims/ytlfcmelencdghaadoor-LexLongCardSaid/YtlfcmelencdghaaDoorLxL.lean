/-
  What is proved: the contract of the document's number: what stands at a place, a digit. Conditions: the text is shorter than a million bytes.
-/
import Derived.Test.YtlfcmelencdghaaDoorLxK
namespace Go.Proofs.YtlfcmelencdghaaDoor
open Go Go.RowKit Go.Lib Go.Proofs
set_option linter.unusedVariables false

theorem sat_full (x y : List UInt8) : (1000000000000000000 < satV x y ↔ 1000000000000000000 < valN x * 1000000 + valN y * 10 ^ (6 - y.length)) ∧ (¬ 1000000000000000000 < valN x * 1000000 + valN y * 10 ^ (6 - y.length) → satV x y = valN x * 1000000 + valN y * 10 ^ (6 - y.length)) := by
  unfold satV
  generalize valN y * 10 ^ (6 - y.length) = t
  generalize valN x = v
  omega
/-- What the document's number tells. -/
def numR (l : List UInt8) : Int × Int × Nat × Int :=
  if badE l = true then (0, 0, badP l, 3) else if 1000000000000000000 < numV l then (0, 0, 0, 2) else ((numN l : Int), (numV l : Int), 0, 0)

theorem results_tmp4 {fn : Func} {t u v x : Tmp} (h : fn.results = #[.tmp t, .tmp u, .tmp v, .tmp x]) (tmps : Array Value) (P : Program) (w : World) :
    (results fn tmps).run P w = .ok (.tuple #[tmps.getD t undef, tmps.getD u undef, tmps.getD v undef, tmps.getD x undef]) w := by
  simp [results, h]
set_option maxHeartbeats 2000000 in
set_option maxRecDepth 100000 in
theorem number_any (s : ByteArray) (hs : s.size ≤ 1000000) (a : Nat) (ha : a < s.size) (hd : isDg s[a] = true) (w : World) :
    Calls Tryd.prog 19 #[.string s, .int .i64 (a : Int)] w fun e w' => e = .returned (.tuple #[.int .i64 (numR (s.data.toList.drop a)).1, .int .i64 (numR (s.data.toList.drop a)).2.1, .int .i64 (if (numR (s.data.toList.drop a)).2.2.2 = 0 then 0 else ((a + (numR (s.data.toList.drop a)).2.2.1 : Nat) : Int)), .int .i64 (numR (s.data.toList.drop a)).2.2.2]) ∧ w = w' := by
  have hr0 : ¬ runL isDg (s.data.toList.drop a) = 0 := by rw [drop_cons ha]; simp [runL, hd]
  have HR := Lib.hid (run_any s (by omega) a (by omega) w)
  have hle := runL_le isDg (s.data.toList.drop a)
  rw [List.length_drop, size_len] at hle
  have hwd : ∀ b ∈ (s.extract a (a + runL isDg (s.data.toList.drop a))).data.toList, isDg b = true := by rw [ext_take]; exact all_take _ _ (Nat.le_refl _)
  obtain ⟨A, hA⟩ : ∃ A, A = numR (s.data.toList.drop a) := ⟨_, rfl⟩
  rw [← hA]
  unfold numR at hA
  cases hp : hasPt (s.data.toList.drop a)
  case false =>
    have hb : badE (s.data.toList.drop a) = false := by unfold badE; rw [hp]; rfl
    have hn : numN (s.data.toList.drop a) = runL isDg (s.data.toList.drop a) := by unfold numN; rw [hp]; rfl
    have hv : numV (s.data.toList.drop a) = valN ((s.data.toList.drop a).take (runL isDg (s.data.toList.drop a))) * 1000000 := by unfold numV; rw [hp]; rfl
    have HM := Lib.hid (refMill_any (s.extract a (a + runL isDg (s.data.toList.drop a))) ⟨#[]⟩ (by rw [ByteArray.size_extract]; omega) (by decide) hwd (by intro b hb; cases hb) w)
    obtain ⟨f1, f2⟩ := sat_full (s.extract a (a + runL isDg (s.data.toList.drop a))).data.toList (⟨#[]⟩ : ByteArray).data.toList
    have e0 : valN (⟨#[]⟩ : ByteArray).data.toList * 10 ^ (6 - (⟨#[]⟩ : ByteArray).data.toList.length) = 0 := by simp [valN]
    rw [e0, Nat.add_zero, ext_take, ← hv] at f1 f2
    rw [ext_take] at HM
    rw [hb, if_neg (by simp), hn] at hA
    have hpt : ∀ h : a + runL isDg (s.data.toList.drop a) < s.size, ¬ s[a + runL isDg (s.data.toList.drop a)].toNat = 46 := fun h e => by
      rw [pt_yes h e] at hp; cases hp
    generalize numV (s.data.toList.drop a) = V at f1 f2 hA hv
    generalize satV ((s.data.toList.drop a).take (runL isDg (s.data.toList.drop a))) (⟨#[]⟩ : ByteArray).data.toList = S at f1 f2 HM
    obtain ⟨r, hr⟩ : ∃ r, r = runL isDg (s.data.toList.drop a) := ⟨_, rfl⟩
    have hpt2 : ∀ h : a + r < s.size, ¬ s[a + r].toNat = 46 := fun h e => hpt (by omega) (by simp only [← hr]; exact e)
    rw [← hr] at HM HR hle hA
    have k1 : (a : Int) ≤ (a : Int) + (r : Int) := by omega
    have k2 : (a : Int) + (r : Int) ≤ (s.size : Int) := by omega
    have k3 : (s.size : Int) ≤ 1000000 := by omega
    have HZ := Lib.hid hs
    clear hs
    clear hr hpt hv hp hb hn hwd hr0 e0 hd
    by_cases hlt : a + r < s.size
    · have d2 := hpt2 hlt
      clear hpt2
      by_cases h18 : 1000000000000000000 < V
      · rw [if_pos h18] at hA
        subst hA
        have i1 : (1000000000000000000 : Int) < (S : Int) := by have := f1.2 h18; omega
        have d3 := decide_eq_true i1
        clear f1 f2 h18
        go_enter Tryd.func19, Tryd.ntmps19
        go_wp2_with fail
        refine (HR.out).mono ?_
        rintro e w1 ⟨rfl, rfl⟩
        go_wp2_with fail
        refine (HM.out).mono ?_
        rintro e w1 ⟨rfl, rfl⟩
        go_wp2
        (try simp only [Exit.inBlock, Exit.then])
        refine bodyPost_ret (results_tmp4 rfl _ _ _) rfl ?_
        exact ⟨rfl, rfl⟩
      · rw [if_neg h18] at hA
        subst hA
        obtain rfl : S = V := f2 h18
        have i1 : ¬ (1000000000000000000 : Int) < (S : Int) := by omega
        have d3 := decide_eq_false i1
        clear f1 f2 h18
        go_enter Tryd.func19, Tryd.ntmps19
        go_wp2_with fail
        refine (HR.out).mono ?_
        rintro e w1 ⟨rfl, rfl⟩
        go_wp2_with fail
        refine (HM.out).mono ?_
        rintro e w1 ⟨rfl, rfl⟩
        go_wp2
        (try simp only [Exit.inBlock, Exit.then])
        refine bodyPost_ret (results_tmp4 rfl _ _ _) rfl ?_
        exact ⟨rfl, rfl⟩
    · have d2 : ¬ (a : Int) + (r : Int) < (s.size : Int) := by omega
      clear hpt2
      by_cases h18 : 1000000000000000000 < V
      · rw [if_pos h18] at hA
        subst hA
        have i1 : (1000000000000000000 : Int) < (S : Int) := by have := f1.2 h18; omega
        have d3 := decide_eq_true i1
        clear f1 f2 h18
        go_enter Tryd.func19, Tryd.ntmps19
        go_wp2_with fail
        refine (HR.out).mono ?_
        rintro e w1 ⟨rfl, rfl⟩
        go_wp2_with fail
        refine (HM.out).mono ?_
        rintro e w1 ⟨rfl, rfl⟩
        go_wp2
        (try simp only [Exit.inBlock, Exit.then])
        refine bodyPost_ret (results_tmp4 rfl _ _ _) rfl ?_
        exact ⟨rfl, rfl⟩
      · rw [if_neg h18] at hA
        subst hA
        obtain rfl : S = V := f2 h18
        have i1 : ¬ (1000000000000000000 : Int) < (S : Int) := by omega
        have d3 := decide_eq_false i1
        clear f1 f2 h18
        go_enter Tryd.func19, Tryd.ntmps19
        go_wp2_with fail
        refine (HR.out).mono ?_
        rintro e w1 ⟨rfl, rfl⟩
        go_wp2_with fail
        refine (HM.out).mono ?_
        rintro e w1 ⟨rfl, rfl⟩
        go_wp2
        (try simp only [Exit.inBlock, Exit.then])
        refine bodyPost_ret (results_tmp4 rfl _ _ _) rfl ?_
        exact ⟨rfl, rfl⟩
  case true =>
    have hlt := hasPt_lt hp
    rw [List.length_drop, size_len] at hlt
    have HF := Lib.hid (run_any s (by omega) (a + runL isDg (s.data.toList.drop a) + 1) (by omega) w)
    have hfr : runL isDg (s.data.toList.drop (a + runL isDg (s.data.toList.drop a) + 1)) = fracL (s.data.toList.drop a) := by unfold fracL; rw [List.drop_drop]; rfl
    have hfl := runL_le isDg (s.data.toList.drop (a + runL isDg (s.data.toList.drop a) + 1))
    rw [List.length_drop, size_len] at hfl
    have hpd : ∀ b ∈ (s.extract (a + runL isDg (s.data.toList.drop a) + 1) (a + runL isDg (s.data.toList.drop a) + 1 + fracL (s.data.toList.drop a))).data.toList, isDg b = true := by rw [ext_take]; exact all_take _ _ (by rw [hfr]; exact Nat.le_refl _)
    rw [hfr] at HF hfl
    have hpt : s[a + runL isDg (s.data.toList.drop a)].toNat = 46 := by
      have h := hp
      unfold hasPt at h
      rw [drop_get (by omega)] at h
      have : s[a + runL isDg (s.data.toList.drop a)] = 46 := by simpa using h
      rw [this]; rfl
    have hn : numN (s.data.toList.drop a) = runL isDg (s.data.toList.drop a) + 1 + fracL (s.data.toList.drop a) := by unfold numN; rw [hp]; rfl
    have hv : numV (s.data.toList.drop a) = valN ((s.data.toList.drop a).take (runL isDg (s.data.toList.drop a))) * 1000000 + valN (((s.data.toList.drop a).drop (runL isDg (s.data.toList.drop a) + 1)).take (fracL (s.data.toList.drop a))) * 10 ^ (6 - fracL (s.data.toList.drop a)) := by unfold numV; rw [hp]; rfl
    have hbe : badE (s.data.toList.drop a) = (decide (fracL (s.data.toList.drop a) = 0) || decide (4 < fracL (s.data.toList.drop a))) := by unfold badE; rw [hp]; rfl
    have hbp : badP (s.data.toList.drop a) = if fracL (s.data.toList.drop a) = 0 then runL isDg (s.data.toList.drop a) else runL isDg (s.data.toList.drop a) + 5 := rfl
    have hM : fracL (s.data.toList.drop a) ≤ 4 → _ := fun h => refMill_any (s.extract a (a + runL isDg (s.data.toList.drop a))) (s.extract (a + runL isDg (s.data.toList.drop a) + 1) (a + runL isDg (s.data.toList.drop a) + 1 + fracL (s.data.toList.drop a))) (by rw [ByteArray.size_extract]; omega) (by rw [ByteArray.size_extract]; omega) hwd hpd w
    obtain ⟨f1, f2⟩ := sat_full (s.extract a (a + runL isDg (s.data.toList.drop a))).data.toList (s.extract (a + runL isDg (s.data.toList.drop a) + 1) (a + runL isDg (s.data.toList.drop a) + 1 + fracL (s.data.toList.drop a))).data.toList
    have hyl : ((s.data.toList.drop (a + runL isDg (s.data.toList.drop a) + 1)).take (fracL (s.data.toList.drop a))).length = fracL (s.data.toList.drop a) := by rw [List.length_take, List.length_drop, size_len]; omega
    rw [ext_take, ext_take, hyl, show s.data.toList.drop (a + runL isDg (s.data.toList.drop a) + 1) = (s.data.toList.drop a).drop (runL isDg (s.data.toList.drop a) + 1) by rw [List.drop_drop]; rfl, ← hv] at f1 f2
    rw [ext_take, ext_take, show s.data.toList.drop (a + runL isDg (s.data.toList.drop a) + 1) = (s.data.toList.drop a).drop (runL isDg (s.data.toList.drop a) + 1) by rw [List.drop_drop]; rfl] at hM
    rw [hbe, hbp, hn] at hA
    generalize satV ((s.data.toList.drop a).take (runL isDg (s.data.toList.drop a))) (((s.data.toList.drop a).drop (runL isDg (s.data.toList.drop a) + 1)).take (fracL (s.data.toList.drop a))) = S at f1 f2 hM
    generalize numV (s.data.toList.drop a) = V at f1 f2 hA hv
    clear hv hn hbe hbp hyl hpd hwd hp hr0 hd hfr
    generalize fracL (s.data.toList.drop a) = f at HF hfl hA hM
    obtain ⟨r, hr⟩ : ∃ r, r = runL isDg (s.data.toList.drop a) := ⟨_, rfl⟩
    have hlt2 : a + r < s.size := by omega
    have hpt2 : s[a + r].toNat = 46 := by simp only [hr]; exact hpt
    rw [← hr] at hM HR HF hfl hle hA
    clear hpt hlt hr
    have k1 : (a : Int) ≤ (a : Int) + (r : Int) := by omega
    have k2 : (a : Int) + (r : Int) ≤ (s.size : Int) := by omega
    have k3 : (s.size : Int) ≤ 1000000 := by omega
    have k4 : (a : Int) + (r : Int) < (s.size : Int) := by omega
    have k5 : (a : Int) + (r : Int) + 1 ≤ (a : Int) + (r : Int) + 1 + (f : Int) := by omega
    have k6 : (a : Int) + (r : Int) + 1 + (f : Int) ≤ (s.size : Int) := by omega
    have hcf : ((a + r + 1 : Nat) : Int) = (a : Int) + (r : Int) + 1 := by omega
    rw [hcf] at HF
    have hsl : ∀ W, (Instr.slice 9 (.string s) (some (.int .i64 ((a : Int) + (r : Int) + 1))) (some (.int .i64 ((a : Int) + (r : Int) + 1 + (f : Int)))) none).run Tryd.prog W = .ok (.string (s.extract (a + r + 1) (a + r + 1 + f))) W := fun W => by
      rw [run_slice_string _ _ _ _ _ _ _ Tryd.underlying9 (by omega) (by omega) (by omega)]
      congr 2
    have HZ := Lib.hid hs
    clear hs hcf
    by_cases h0 : f = 0
    · subst h0
      rw [decide_eq_true rfl, Bool.true_or, if_pos rfl, if_pos rfl] at hA
      subst hA
      clear hM f1 f2
      go_enter Tryd.func19, Tryd.ntmps19
      go_wp2_with fail
      refine (HR.out).mono ?_
      rintro e w1 ⟨rfl, rfl⟩
      go_wp2_with fail
      refine (HF.out).mono ?_
      rintro e w1 ⟨rfl, rfl⟩
      go_wp2
      (try simp only [Exit.inBlock, Exit.then])
      refine bodyPost_ret (results_tmp4 rfl _ _ _) rfl ?_
      exact ⟨rfl, rfl⟩
    · rw [decide_eq_false h0, Bool.false_or, if_neg h0] at hA
      have d0 : ((f : Int) == 0) = false := by simp; omega
      by_cases h4 : 4 < f
      · rw [decide_eq_true h4, if_pos rfl] at hA
        subst hA
        have d4 : (4 : Int) < (f : Int) := by omega
        clear hM f1 f2 h0 h4
        go_enter Tryd.func19, Tryd.ntmps19
        go_wp2_with fail
        refine (HR.out).mono ?_
        rintro e w1 ⟨rfl, rfl⟩
        go_wp2_with fail
        refine (HF.out).mono ?_
        rintro e w1 ⟨rfl, rfl⟩
        go_wp2
        (try simp only [Exit.inBlock, Exit.then])
        refine bodyPost_ret (results_tmp4 rfl _ _ _) rfl ?_
        exact ⟨rfl, rfl⟩
      · rw [decide_eq_false h4, if_neg (by simp)] at hA
        have HM := Lib.hid (hM (by omega))
        have d4 : ¬ (4 : Int) < (f : Int) := by omega
        by_cases h18 : 1000000000000000000 < V
        · rw [if_pos h18] at hA
          subst hA
          have i1 : (1000000000000000000 : Int) < (S : Int) := by have := f1.2 h18; omega
          have d3 := decide_eq_true i1
          clear f1 f2 h18 h0 h4 hM
          go_enter Tryd.func19, Tryd.ntmps19
          go_wp2_with fail
          refine (HR.out).mono ?_
          rintro e w1 ⟨rfl, rfl⟩
          go_wp2_with fail
          refine (HF.out).mono ?_
          rintro e w1 ⟨rfl, rfl⟩
          go_wp2_with fail
          refine (HM.out).mono ?_
          rintro e w1 ⟨rfl, rfl⟩
          go_wp2
          (try simp only [Exit.inBlock, Exit.then])
          refine bodyPost_ret (results_tmp4 rfl _ _ _) rfl ?_
          exact ⟨rfl, rfl⟩
        · rw [if_neg h18] at hA
          subst hA
          obtain rfl : S = V := f2 h18
          have i1 : ¬ (1000000000000000000 : Int) < (S : Int) := by omega
          have d3 := decide_eq_false i1
          clear f1 f2 h18 h0 h4 hM
          go_enter Tryd.func19, Tryd.ntmps19
          go_wp2_with fail
          refine (HR.out).mono ?_
          rintro e w1 ⟨rfl, rfl⟩
          go_wp2_with fail
          refine (HF.out).mono ?_
          rintro e w1 ⟨rfl, rfl⟩
          go_wp2_with fail
          refine (HM.out).mono ?_
          rintro e w1 ⟨rfl, rfl⟩
          go_wp2
          (try simp only [Exit.inBlock, Exit.then])
          refine bodyPost_ret (results_tmp4 rfl _ _ _) rfl ?_
          exact ⟨rfl, rfl⟩

end Go.Proofs.YtlfcmelencdghaaDoor
