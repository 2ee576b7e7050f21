/-
  What is proved: the contract of lex.numberEnd. Conditions: the text is shorter than 2^62 bytes, the place lies within it.
-/
import Derived.Test.YtlfcmelencdghaaDoorLxB
namespace Go.Proofs.YtlfcmelencdghaaDoor
open Go Go.RowKit Go.Proofs
set_option linter.unusedVariables false

/-- The place behind the number at the head, or of what is wrong. -/
def nEndP (l : List UInt8) : Nat := if runL isDg l = 0 then 0 else if badE l = true then badP l else numN l
def nEndE (l : List UInt8) : Int := if runL isDg l = 0 then 3 else if badE l = true then 3 else 0

theorem nEnd0 {l : List UInt8} (h : runL isDg l = 0) : nEndP l = 0 ∧ nEndE l = 3 := by unfold nEndP nEndE; rw [if_pos h, if_pos h]; exact ⟨rfl, rfl⟩
theorem nEnd1 {l : List UInt8} (h : ¬ runL isDg l = 0) (hp : hasPt l = false) : nEndP l = runL isDg l ∧ nEndE l = 0 := by
  have hb : badE l = false := by unfold badE; rw [hp]; rfl
  have hn : numN l = runL isDg l := by unfold numN; rw [hp]; rfl
  unfold nEndP nEndE; rw [if_neg h, if_neg h, hb, hn]; exact ⟨rfl, rfl⟩
theorem nEnd2 {l : List UInt8} (h : ¬ runL isDg l = 0) (hp : hasPt l = true) (hf : fracL l = 0) : nEndP l = runL isDg l ∧ nEndE l = 3 := by
  have hb : badE l = true := by unfold badE; rw [hp, hf]; rfl
  have hn : badP l = runL isDg l := by unfold badP; rw [hf]; rfl
  unfold nEndP nEndE; rw [if_neg h, if_neg h, hb, hn]; exact ⟨rfl, rfl⟩
theorem nEnd3 {l : List UInt8} (h : ¬ runL isDg l = 0) (hp : hasPt l = true) (hf : 4 < fracL l) : nEndP l = runL isDg l + 5 ∧ nEndE l = 3 := by
  have hb : badE l = true := by unfold badE; rw [hp, decide_eq_true hf]; simp
  have hn : badP l = runL isDg l + 5 := by unfold badP; rw [if_neg (by omega)]
  unfold nEndP nEndE; rw [if_neg h, if_neg h, hb, hn]; exact ⟨rfl, rfl⟩
theorem nEnd4 {l : List UInt8} (h : ¬ runL isDg l = 0) (hp : hasPt l = true) (hf : ¬ fracL l = 0) (hf4 : ¬ 4 < fracL l) : nEndP l = runL isDg l + 1 + fracL l ∧ nEndE l = 0 := by
  have hb : badE l = false := by unfold badE; rw [hp, decide_eq_false hf, decide_eq_false hf4]; rfl
  have hn : numN l = runL isDg l + 1 + fracL l := by unfold numN; rw [hp]; rfl
  unfold nEndP nEndE; rw [if_neg h, if_neg h, hb, hn]; exact ⟨rfl, rfl⟩

theorem drop_get {d : ByteArray} {a k : Nat} (h : a + k < d.size) : (d.data.toList.drop a)[k]? = some d[a + k] := by
  rw [List.getElem?_drop, List.getElem?_eq_getElem (by rw [size_len]; exact h)]; rfl
theorem pt_yes {d : ByteArray} {a : Nat} (h : a + runL isDg (d.data.toList.drop a) < d.size) (h46 : d[a + runL isDg (d.data.toList.drop a)].toNat = 46) : hasPt (d.data.toList.drop a) = true := by
  unfold hasPt
  rw [drop_get h]
  have : d[a + runL isDg (d.data.toList.drop a)] = 46 := UInt8.toNat_inj.1 (by rw [h46]; rfl)
  rw [this]; rfl
theorem pt_not {d : ByteArray} {a : Nat} (h : a + runL isDg (d.data.toList.drop a) < d.size) (h46 : d[a + runL isDg (d.data.toList.drop a)].toNat ≠ 46) : hasPt (d.data.toList.drop a) = false := by
  unfold hasPt
  rw [drop_get h]
  have : d[a + runL isDg (d.data.toList.drop a)] ≠ 46 := fun e => h46 (by rw [e]; rfl)
  simpa using this
theorem pt_end {d : ByteArray} {a : Nat} (h : d.size ≤ a + runL isDg (d.data.toList.drop a)) : hasPt (d.data.toList.drop a) = false := by
  unfold hasPt
  rw [List.getElem?_eq_none (by rw [List.length_drop, size_len]; omega)]; rfl

set_option maxHeartbeats 1000000 in
theorem numberEnd_any (s : ByteArray) (hs : s.size ≤ 4611686018427387904) (a : Nat) (ha : a ≤ s.size) (w : World) :
    Calls Tryd.prog 21 #[.string s, .int .i64 (a : Int)] w fun e w' => e = .returned (.tuple #[.int .i64 ((a + nEndP (s.data.toList.drop a) : Nat) : Int), .int .i64 (nEndE (s.data.toList.drop a))]) ∧ w' = w.alloc (.cells #[.string s] 9) := by
  have hc : (w.alloc (.cells #[.string s] 9)).cell? ⟨w.heap.size, 0, none⟩ = some (.string s) := by rw [World.cell?_alloc_new]; rfl
  have H1 := Lib.hid (look_any asksDigit s hs a ha w.heap.size (w.alloc (.cells #[.string s] 9)) hc)
  have hle : a + runL isDg (s.data.toList.drop a) ≤ s.size := by
    have := runL_le isDg (s.data.toList.drop a)
    rw [List.length_drop, size_len] at this
    omega
  obtain ⟨P, hP⟩ : ∃ P, P = a + nEndP (s.data.toList.drop a) := ⟨_, rfl⟩
  obtain ⟨E, hE⟩ : ∃ E, E = nEndE (s.data.toList.drop a) := ⟨_, rfl⟩
  rw [← hP, ← hE]
  by_cases h0 : runL isDg (s.data.toList.drop a) = 0
  · obtain rfl : P = a := by rw [hP, (nEnd0 h0).1]; omega
    obtain rfl : E = 3 := by rw [hE, (nEnd0 h0).2]
    rw [h0] at H1
    clear h0 hP hE hle
    go_enter Tryd.func21, Tryd.ntmps21
    go_wp2_with fail
    refine (looker_any _ _).mono ?_
    rintro e w1 ⟨rfl, rfl⟩
    go_wp2_with fail
    refine (H1.out).mono ?_
    rintro e w1 ⟨rfl, rfl⟩
    go_wp2
    go_ret2
    exact ⟨rfl, rfl⟩
  · by_cases h1 : a + runL isDg (s.data.toList.drop a) = s.size
    · have hpt := pt_end (d := s) (a := a) (by omega)
      have hP' : P = a + runL isDg (s.data.toList.drop a) := by rw [hP, (nEnd1 h0 hpt).1]
      obtain rfl : E = 0 := by rw [hE, (nEnd1 h0 hpt).2]
      rw [← hP'] at H1 h1
      have hP2 := Lib.hid hP'
      have e0 : ((P : Int) == (a : Int)) = false := by simp; omega
      have e1 : ((P : Int) == (s.size : Int)) = true := by simp; omega
      clear hP hE hle hpt h0 h1 hP'
      go_enter Tryd.func21, Tryd.ntmps21
      go_wp2_with fail
      refine (looker_any _ _).mono ?_
      rintro e w1 ⟨rfl, rfl⟩
      go_wp2_with fail
      refine (H1.out).mono ?_
      rintro e w1 ⟨rfl, rfl⟩
      go_wp2
      go_ret2
      exact ⟨rfl, rfl⟩
    · have hlt : a + runL isDg (s.data.toList.drop a) < s.size := by omega
      by_cases h2 : s[a + runL isDg (s.data.toList.drop a)].toNat = 46
      · have hpt := pt_yes hlt h2
        have H2 := Lib.hid (look_any asksDigit s hs (a + runL isDg (s.data.toList.drop a) + 1) (by omega) w.heap.size (w.alloc (.cells #[.string s] 9)) hc)
        obtain ⟨q, hq⟩ : ∃ q, q = a + runL isDg (s.data.toList.drop a) := ⟨_, rfl⟩
        have hfr : runL isDg (s.data.toList.drop (q + 1)) = fracL (s.data.toList.drop a) := by
          unfold fracL; rw [List.drop_drop, hq]; rfl
        have hPb : fracL (s.data.toList.drop a) = 0 → P = q ∧ E = 3 := fun h => by
          rw [hP, hE, (nEnd2 h0 hpt h).1, (nEnd2 h0 hpt h).2]; exact ⟨by omega, rfl⟩
        have hPc : 4 < fracL (s.data.toList.drop a) → P = q + 5 ∧ E = 3 := fun h => by
          rw [hP, hE, (nEnd3 h0 hpt h).1, (nEnd3 h0 hpt h).2]; exact ⟨by omega, rfl⟩
        have hPd : ¬ fracL (s.data.toList.drop a) = 0 → ¬ 4 < fracL (s.data.toList.drop a) → P = q + 1 + fracL (s.data.toList.drop a) ∧ E = 0 := fun h h' => by
          rw [hP, hE, (nEnd4 h0 hpt h h').1, (nEnd4 h0 hpt h h').2]; exact ⟨by omega, rfl⟩
        have hq0 : ¬ q = a := by omega
        have hltq : q < s.size := by omega
        have h2q : s[q].toNat = 46 := by simp only [hq]; exact h2
        simp only [← hq] at H1 H2
        rw [hfr] at H2
        have hfle : q + 1 + fracL (s.data.toList.drop a) ≤ s.size := by
          have := runL_le isDg (s.data.toList.drop (q + 1))
          rw [List.length_drop, size_len, hfr] at this
          omega
        have e0 : ((q : Int) == (a : Int)) = false := by simp; omega
        have e1 : ((q : Int) == (s.size : Int)) = false := by simp; omega
        have i1 : ((q + 1 : Nat) : Int) = (q : Int) + 1 := by omega
        rw [i1] at H2
        generalize fracL (s.data.toList.drop a) = fr at H2 hPb hPc hPd hfle
        clear hP hE hle hpt h0 h1 h2 hlt hq hfr i1 hq0
        by_cases hf0 : fr = 0
        · obtain ⟨rfl, rfl⟩ := hPb hf0
          rw [hf0] at H2
          clear hPb hPc hPd hf0 hfle
          go_enter Tryd.func21, Tryd.ntmps21
          go_wp2_with fail
          refine (looker_any _ _).mono ?_
          rintro e w1 ⟨rfl, rfl⟩
          go_wp2_with fail
          refine (H1.out).mono ?_
          rintro e w1 ⟨rfl, rfl⟩
          go_wp2_with fail
          refine (H2.out).mono ?_
          rintro e w1 ⟨rfl, rfl⟩
          go_wp2
          go_ret2
          exact ⟨rfl, rfl⟩
        · by_cases hf4 : 4 < fr
          · obtain ⟨hP5, rfl⟩ := hPc hf4
            replace hP5 := Lib.hid hP5
            have e2 : (((q + 1 + fr : Nat) : Int) == (q : Int) + 1) = false := by simp; omega
            have e3 : (q : Int) + 1 + 4 < ((q + 1 + fr : Nat) : Int) := by omega
            generalize q + 1 + fr = z at H2 e2 e3 hfle
            clear hPb hPc hPd hf0 hf4
            go_enter Tryd.func21, Tryd.ntmps21
            go_wp2_with fail
            refine (looker_any _ _).mono ?_
            rintro e w1 ⟨rfl, rfl⟩
            go_wp2_with fail
            refine (H1.out).mono ?_
            rintro e w1 ⟨rfl, rfl⟩
            go_wp2_with fail
            refine (H2.out).mono ?_
            rintro e w1 ⟨rfl, rfl⟩
            go_wp2
            go_ret2
            refine ⟨?_, rfl⟩
            show Ending.returned (.tuple #[.int .i64 ((q : Int) + 1 + 4), .int .i64 3]) = _
            rw [hP5.out, show ((q + 5 : Nat) : Int) = (q : Int) + 1 + 4 by omega]
          · obtain ⟨hP1, rfl⟩ := hPd hf0 hf4
            have e2 : (((q + 1 + fr : Nat) : Int) == (q : Int) + 1) = false := by simp; omega
            have e3 : ¬ (q : Int) + 1 + 4 < ((q + 1 + fr : Nat) : Int) := by omega
            rw [← hP1] at H2 e2 e3 hfle
            clear hPb hPc hPd hf0 hf4 hP1
            go_enter Tryd.func21, Tryd.ntmps21
            go_wp2_with fail
            refine (looker_any _ _).mono ?_
            rintro e w1 ⟨rfl, rfl⟩
            go_wp2_with fail
            refine (H1.out).mono ?_
            rintro e w1 ⟨rfl, rfl⟩
            go_wp2_with fail
            refine (H2.out).mono ?_
            rintro e w1 ⟨rfl, rfl⟩
            go_wp2
            go_ret2
            exact ⟨rfl, rfl⟩
      · have hpt := pt_not hlt h2
        have hP' : P = a + runL isDg (s.data.toList.drop a) := by rw [hP, (nEnd1 h0 hpt).1]
        obtain rfl : E = 0 := by rw [hE, (nEnd1 h0 hpt).2]
        have hne : ¬ P = a := by omega
        have hltq : P < s.size := by omega
        have h2q : ¬ s[P].toNat = 46 := by simp only [hP']; exact h2
        simp only [← hP'] at H1 h1
        have e0 : ((P : Int) == (a : Int)) = false := by simp; omega
        have e1 : ((P : Int) == (s.size : Int)) = false := by simp; omega
        clear hP hE hle hpt h0 h1 h2 hlt hP' hne
        go_enter Tryd.func21, Tryd.ntmps21
        go_wp2_with fail
        refine (looker_any _ _).mono ?_
        rintro e w1 ⟨rfl, rfl⟩
        go_wp2_with fail
        refine (H1.out).mono ?_
        rintro e w1 ⟨rfl, rfl⟩
        go_wp2
        go_ret2
        exact ⟨rfl, rfl⟩

end Go.Proofs.YtlfcmelencdghaaDoor
