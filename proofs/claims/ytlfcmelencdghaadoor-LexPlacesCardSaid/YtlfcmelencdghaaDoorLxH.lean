/-
  What is proved: the contracts of lex.IsName and lex.NumberOf, and that the document's examples come out of the code. Conditions: texts are shorter than a million bytes; the variable ErrRange holds an error.
-/
import Derived.Test.YtlfcmelencdghaaDoorLxG
namespace Go.Proofs.YtlfcmelencdghaaDoor
open Go Go.RowKit Go.Lib Go.Proofs
set_option linter.unusedVariables false

/-- The text is a name. -/
def nameB (l : List UInt8) : Bool := !l.isEmpty && (decide ((tok l).e = 0) && (decide ((tok l).kind = 1) && decide ((tok l).n = l.length)))
theorem IsName_any (s : ByteArray) (hs : s.size ≤ 1000000) (w : World) (hS : Sent w) :
    Calls Tryd.prog 12 #[.string s] w fun e w' => e = .returned (.bool (nameB s.data.toList)) ∧ Below w.heap.size w w' := by
  obtain ⟨R, hR⟩ : ∃ R, R = nameB s.data.toList := ⟨_, rfl⟩
  rw [← hR]
  by_cases h0 : s.size = 0
  · have hl : s.data.toList = [] := List.eq_nil_of_length_eq_zero (by rw [size_len]; exact h0)
    obtain rfl : R = false := by rw [hR, hl]; rfl
    obtain rfl : s = ⟨#[]⟩ := by
      obtain ⟨⟨l⟩⟩ := s
      simp at hl
      rw [hl]
    clear hR hl h0
    go_enter Tryd.func12, Tryd.ntmps12
    go_wp2
    go_ret
    exact ⟨rfl, Below.refl _ _⟩
  · have hT := tokenAt_any s hs 0 (by omega) w hS
    unfold TokOk at hT
    rw [show s.data.toList.drop 0 = s.data.toList from rfl] at hT
    have hlen : s.data.toList.length = s.size := size_len s
    have hne : (s.toList.isEmpty) = false := by
      rw [Lib.toList_data]
      cases h : s.data.toList with
      | nil => rw [h] at hlen; simp at hlen; omega
      | cons a r => rfl
    have hne2 : s.data.toList.isEmpty = false := by rw [← Lib.toList_data]; exact hne
    have hne3 : (!s.toList.isEmpty) = true := by rw [hne]; rfl
    unfold nameB at hR
    rw [hne2, hlen] at hR
    generalize tok s.data.toList = T at hR hT
    obtain ⟨t1, t2, t3⟩ := T
    dsimp only at hR hT
    rw [Nat.zero_add] at hT
    have HT := Lib.hid hT
    have HR := Lib.hid hR
    clear hT hR hlen hne2 h0
    by_cases h3 : t3 = 0
    · have d3 : (t3 == 0) = true := by simpa using h3
      by_cases h1 : t1 = 1
      · have d1 : (t1 == 1) = true := by simpa using h1
        by_cases h2 : t2 = s.size
        · have d2 : ((t2 : Int) == (s.size : Int)) = true := by simp; omega
          obtain rfl : R = true := by rw [HR.out, h3, h1, h2]; simp
          clear h1 h2 h3
          go_enter Tryd.func12, Tryd.ntmps12
          go_wp2_with fail
          refine (HT.out).mono ?_
          rintro e w1 ⟨rfl, hb⟩
          go_wp2
          go_ret
          exact ⟨rfl, hb⟩
        · have d2 : ((t2 : Int) == (s.size : Int)) = false := by simp; omega
          obtain rfl : R = false := by rw [HR.out, decide_eq_false h2]; simp
          clear h1 h2 h3
          go_enter Tryd.func12, Tryd.ntmps12
          go_wp2_with fail
          refine (HT.out).mono ?_
          rintro e w1 ⟨rfl, hb⟩
          go_wp2
          go_ret
          exact ⟨rfl, hb⟩
      · have d1 : (t1 == 1) = false := by simpa using h1
        obtain rfl : R = false := by rw [HR.out, decide_eq_false h1]; simp
        clear h1 h3
        go_enter Tryd.func12, Tryd.ntmps12
        go_wp2_with fail
        refine (HT.out).mono ?_
        rintro e w1 ⟨rfl, hb⟩
        go_wp2
        go_ret
        exact ⟨rfl, hb⟩
    · have d3 : (t3 == 0) = false := by simpa using h3
      obtain rfl : R = false := by rw [HR.out, decide_eq_false h3]; simp
      clear h3
      go_enter Tryd.func12, Tryd.ntmps12
      go_wp2_with fail
      refine (HT.out).mono ?_
      rintro e w1 ⟨rfl, hb⟩
      go_wp2
      go_ret
      exact ⟨rfl, hb⟩

/-- What a number says, and what is wrong with a text that is none. -/
def isNumB (l : List UInt8) : Bool := decide (runL isDg l ≠ 0) && (!badE l && decide (numN l = l.length))
def noV (l : List UInt8) : Int := if isNumB l = true then (if 1000000000000000000 < numV l then 0 else (numV l : Int)) else 0
def noE (l : List UInt8) : Int := if isNumB l = true then (if 1000000000000000000 < numV l then 2 else 0) else 3
theorem isNum_iff {l : List UInt8} : isNumB l = true ↔ isNum l := by
  unfold isNumB isNum
  simp only [Bool.and_eq_true, decide_eq_true_eq, Bool.not_eq_true']
theorem NumberOf_any (s : ByteArray) (hs : s.size ≤ 1000000) (w : World) (hS : Sent w) :
    Calls Tryd.prog 11 #[.string s] w fun e w' => e = .returned (.tuple #[.int .i64 (noV s.data.toList), .int .i64 (noE s.data.toList)]) ∧ Below w.heap.size w w' := by
  have hN := numberEnd_any s (by omega) 0 (by omega) w
  rw [show s.data.toList.drop 0 = s.data.toList from rfl, Nat.zero_add] at hN
  have hbw : Below w.heap.size w (w.alloc (.cells #[.string s] 9)) := (Below.refl _ _).alloc (Nat.le_refl _) _
  obtain ⟨V, hV⟩ : ∃ V, V = noV s.data.toList := ⟨_, rfl⟩
  obtain ⟨E, hE⟩ : ∃ E, E = noE s.data.toList := ⟨_, rfl⟩
  rw [← hV, ← hE]
  unfold noV at hV
  unfold noE at hE
  have hno : isNumB s.data.toList = false → V = 0 ∧ E = 3 := fun h => by rw [hV, hE, h]; exact ⟨rfl, rfl⟩
  by_cases h0 : runL isDg s.data.toList = 0
  · rw [(nEnd0 h0).1, (nEnd0 h0).2] at hN
    obtain ⟨rfl, rfl⟩ := hno (by unfold isNumB; rw [h0]; rfl)
    have HN := Lib.hid hN
    clear hN hno hV hE h0
    go_enter Tryd.func11, Tryd.ntmps11
    go_wp2_with fail
    refine (HN.out).mono ?_
    rintro e w1 ⟨rfl, rfl⟩
    go_wp2
    go_ret2
    exact ⟨rfl, hbw⟩
  · cases hb : badE s.data.toList
    case true =>
      rw [(nEnd_bad h0 hb).1, (nEnd_bad h0 hb).2] at hN
      obtain ⟨rfl, rfl⟩ := hno (by unfold isNumB; rw [hb]; simp)
      have HN := Lib.hid hN
      clear hN hno hV hE h0 hb
      go_enter Tryd.func11, Tryd.ntmps11
      go_wp2_with fail
      refine (HN.out).mono ?_
      rintro e w1 ⟨rfl, rfl⟩
      go_wp2
      go_ret2
      exact ⟨rfl, hbw⟩
    case false =>
      rw [(nEnd_good h0 hb).1, (nEnd_good h0 hb).2] at hN
      have hle := numN_le s.data.toList
      rw [size_len] at hle
      by_cases h1 : numN s.data.toList < s.size
      · obtain ⟨rfl, rfl⟩ := hno (by unfold isNumB; rw [size_len, decide_eq_false (show ¬ numN s.data.toList = s.size by omega)]; simp)
        have HN := Lib.hid hN
        generalize numN s.data.toList = n at HN h1
        have i1 : (n : Int) < (s.size : Int) := by omega
        clear hN hno hV hE h0 hb hle
        go_enter Tryd.func11, Tryd.ntmps11
        go_wp2_with fail
        refine (HN.out).mono ?_
        rintro e w1 ⟨rfl, rfl⟩
        go_wp2
        go_ret2
        exact ⟨rfl, hbw⟩
      · have hnum : isNum s.data.toList := ⟨h0, hb, by rw [size_len]; omega⟩
        rw [if_pos (isNum_iff.2 hnum)] at hV hE
        have hM := millionths_any s hs hnum _ (hS.below (Nat.le_refl _) hbw)
        rw [← hV, ← hE] at hM
        have HN := Lib.hid hN
        have HM := Lib.hid hM
        generalize numN s.data.toList = n at HN h1
        have i1 : ¬ (n : Int) < (s.size : Int) := by omega
        clear hN hM hno hV hE h0 hb hle hnum hS h1
        go_enter Tryd.func11, Tryd.ntmps11
        go_wp2_with fail
        refine (HN.out).mono ?_
        rintro e w1 ⟨rfl, rfl⟩
        go_wp2_with fail
        refine (HM.out).mono ?_
        rintro e w1 ⟨rfl, hb1⟩
        go_wp2
        go_ret2
        exact ⟨rfl, hbw.trans (hb1.mono hbw.size)⟩

end Go.Proofs.YtlfcmelencdghaaDoor
