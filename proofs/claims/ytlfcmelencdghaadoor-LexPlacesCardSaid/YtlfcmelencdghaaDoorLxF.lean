/-
  What is proved: the contracts of lex.isSign and lex.tokenAt: the word at a place. Conditions: the place lies within the text, which is shorter than a million bytes; the variable ErrRange holds an error.
-/
import Derived.Test.YtlfcmelencdghaaDoorLxE
namespace Go.Proofs.YtlfcmelencdghaaDoor
open Go Go.RowKit Go.Lib Go.Proofs
set_option linter.unusedVariables false

theorem sign_index (b : UInt8) : (isSg b = true ∧ 0 ≤ indexByte [43, 45, 42, 40, 41, 44, 60, 61] b) ∨ (isSg b = false ∧ indexByte [43, 45, 42, 40, 41, 44, 60, 61] b = -1) := by
  have h : ∀ n : Fin 256, (isSg (UInt8.ofNat n.val) = true ∧ 0 ≤ indexByte [43, 45, 42, 40, 41, 44, 60, 61] (UInt8.ofNat n.val)) ∨ (isSg (UInt8.ofNat n.val) = false ∧ indexByte [43, 45, 42, 40, 41, 44, 60, 61] (UInt8.ofNat n.val) = -1) := by decide +kernel
  have h1 := h ⟨b.toNat, b.toNat_lt⟩
  rwa [show UInt8.ofNat (⟨b.toNat, b.toNat_lt⟩ : Fin 256).val = b from UInt8.ofNat_toNat] at h1
theorem isSign_any (b : UInt8) (w : World) : Calls Tryd.prog 27 #[.int .u8 (b.toNat : Int)] w fun e w' => e = .returned (.bool (isSg b)) ∧ w = w' := by
  have HI := Tryd.strings_IndexByte ⟨#[43, 45, 42, 40, 41, 44, 60, 61]⟩ (b.toNat : Int) w
  rw [show ((b.toNat : Int).toNat.toUInt8) = b by simp] at HI
  have hs := sign_index b
  rw [show (⟨#[43, 45, 42, 40, 41, 44, 60, 61]⟩ : ByteArray).data.toList = [43, 45, 42, 40, 41, 44, 60, 61] from rfl] at HI
  rcases hs with ⟨h1, h2⟩ | ⟨h1, h2⟩
  · rw [h1]
    generalize indexByte [43, 45, 42, 40, 41, 44, 60, 61] b = i at HI h2
    have H := Lib.hid HI
    clear HI h1
    go_enter Tryd.func27, Tryd.ntmps27
    go_wp2_with fail
    refine (H.out).mono ?_
    rintro e w1 ⟨rfl, rfl⟩
    go_wp2
    go_ret
    exact ⟨rfl, rfl⟩
  · rw [h1]
    rw [h2] at HI
    have H := Lib.hid HI
    clear HI h1 h2
    go_enter Tryd.func27, Tryd.ntmps27
    go_wp2_with fail
    refine (H.out).mono ?_
    rintro e w1 ⟨rfl, rfl⟩
    go_wp2
    go_ret
    exact ⟨rfl, rfl⟩

/-- What stands at a place within a text. -/
theorem drop_cons {d : ByteArray} {a : Nat} (h : a < d.size) : d.data.toList.drop a = d[a] :: d.data.toList.drop (a + 1) := by
  rw [List.drop_eq_getElem_cons (by rw [size_len]; exact h)]; rfl
/-- The word at a place, as the code tells it. -/
def TokOk (s : ByteArray) (a : Nat) (w : World) (e : Ending) (w' : World) : Prop :=
  e = .returned (.tuple #[.int .i64 (tok (s.data.toList.drop a)).kind, .int .i64 ((a + (tok (s.data.toList.drop a)).n : Nat) : Int), .int .i64 (tok (s.data.toList.drop a)).e]) ∧ Below w.heap.size w w'

theorem nEnd_bad {l : List UInt8} (h : ¬ runL isDg l = 0) (hb : badE l = true) : nEndP l = badP l ∧ nEndE l = 3 := by unfold nEndP nEndE; rw [if_neg h, if_neg h, if_pos hb, if_pos hb]; exact ⟨rfl, rfl⟩
theorem nEnd_good {l : List UInt8} (h : ¬ runL isDg l = 0) (hb : badE l = false) : nEndP l = numN l ∧ nEndE l = 0 := by unfold nEndP nEndE; rw [if_neg h, if_neg h, hb]; exact ⟨rfl, rfl⟩

/-- A number by itself is what it was at a text's head. -/
theorem runL_pre {p : UInt8 → Bool} {l : List UInt8} {n : Nat} (h : runL p l ≤ n) : runL p (l.take n) = runL p l := runL_take l n h
theorem num_take {l : List UInt8} (h0 : ¬ runL isDg l = 0) (hb : badE l = false) : isNum (l.take (numN l)) ∧ numV (l.take (numN l)) = numV l := by
  have hle := numN_le l
  have hr0 : runL isDg l ≤ numN l := by unfold numN; split <;> omega
  have hr := runL_take (p := isDg) l (numN l) hr0
  have hlen : (l.take (numN l)).length = numN l := by rw [List.length_take]; omega
  cases hp : hasPt l
  · have hn : numN l = runL isDg l := by unfold numN; rw [hp]; rfl
    have hp' : hasPt (l.take (numN l)) = false := by
      unfold hasPt; rw [hr, List.getElem?_eq_none (by omega)]; rfl
    refine ⟨⟨by rw [hr]; exact h0, by unfold badE; rw [hp']; rfl, ?_⟩, ?_⟩
    · rw [show numN (l.take (numN l)) = runL isDg (l.take (numN l)) by rw [numN, hp']; rfl, hr, hlen, hn]
    · rw [show numV (l.take (numN l)) = valN ((l.take (numN l)).take (runL isDg (l.take (numN l)))) * 1000000 by rw [numV, hp']; rfl,
        show numV l = valN (l.take (runL isDg l)) * 1000000 by rw [numV, hp]; rfl, hr, List.take_take, Nat.min_eq_left hr0]
  · have hn : numN l = runL isDg l + 1 + fracL l := by unfold numN; rw [hp]; rfl
    have hp' : hasPt (l.take (numN l)) = true := by
      unfold hasPt at hp ⊢; rw [hr, List.getElem?_take_of_lt (by omega)]; exact hp
    have hf : fracL (l.take (numN l)) = fracL l := by
      unfold fracL at hn ⊢
      rw [hr, List.drop_take]
      exact runL_take _ _ (by omega)
    refine ⟨⟨by rw [hr]; exact h0, by unfold badE at hb ⊢; rw [hp', hf]; rw [hp] at hb; exact hb, ?_⟩, ?_⟩
    · rw [show numN (l.take (numN l)) = runL isDg (l.take (numN l)) + 1 + fracL (l.take (numN l)) by rw [numN, hp']; rfl, hr, hf, hlen, hn]
    · rw [show numV (l.take (numN l)) = valN ((l.take (numN l)).take (runL isDg (l.take (numN l)))) * 1000000 + valN (((l.take (numN l)).drop (runL isDg (l.take (numN l)) + 1)).take (fracL (l.take (numN l)))) * 10 ^ (6 - fracL (l.take (numN l))) by rw [numV, hp']; rfl,
        show numV l = valN (l.take (runL isDg l)) * 1000000 + valN ((l.drop (runL isDg l + 1)).take (fracL l)) * 10 ^ (6 - fracL l) by rw [numV, hp]; rfl, hr, hf, List.take_take, Nat.min_eq_left hr0, List.drop_take, List.take_take, Nat.min_eq_left (by omega)]

theorem tok_cons (b : UInt8) (r : List UInt8) : tok (b :: r) = if isLt b = true then (if 32 < runL isIn (b :: r) then ⟨0, 0, 4⟩ else ⟨1, runL isIn (b :: r), 0⟩)
    else if isDg b = true then (if badE (b :: r) = true then ⟨0, badP (b :: r), 3⟩ else if 1000000000000000000 < numV (b :: r) then ⟨0, 0, 2⟩ else ⟨2, numN (b :: r), 0⟩)
    else if isSg b = true then ⟨3, 1, 0⟩ else ⟨0, 0, 3⟩ := rfl
theorem ext_take {s : ByteArray} {a n : Nat} : (s.extract a (a + n)).data.toList = (s.data.toList.drop a).take n := by
  rw [ByteArray.data_extract, Array.toList_extract, List.extract_eq_take_drop, show a + n - a = n by omega]

set_option maxHeartbeats 2000000 in
theorem tokenAt_any (s : ByteArray) (hs : s.size ≤ 1000000) (a : Nat) (ha : a < s.size) (w : World) (hS : Sent w) :
    Calls Tryd.prog 15 #[.string s, .int .i64 (a : Int)] w (TokOk s a w) := by
  have hl := drop_cons ha
  have HS := Lib.hid hS
  clear hS
  unfold TokOk
  obtain ⟨T, hT⟩ : ∃ T, T = tok (s.data.toList.drop a) := ⟨_, rfl⟩
  rw [← hT]
  rw [hl, tok_cons, ← hl] at hT
  obtain ⟨t1, t2, t3⟩ := T
  dsimp only
  obtain ⟨Z, hZ⟩ : ∃ Z, Z = a + t2 := ⟨_, rfl⟩
  rw [← hZ]
  have ia : (a : Int) < (s.size : Int) := by omega
  have HL := Lib.hid (fun W => isLetter_any s[a] W)
  have HD := Lib.hid (fun W => isDigit_any s[a] W)
  have HG := Lib.hid (fun W => isSign_any s[a] W)
  cases h1 : isLt s[a]
  case true =>
    rw [h1, if_pos rfl] at hT
    rw [h1] at HL
    have hle := runL_le isIn (s.data.toList.drop a)
    rw [List.length_drop, size_len] at hle
    clear HD HG h1 hl HS
    have H0 := fun W => looker_any s W
    have HK := Lib.hid H0
    clear H0
    have hc : (w.alloc (.cells #[.string s] 9)).cell? ⟨w.heap.size, 0, none⟩ = some (.string s) := by rw [World.cell?_alloc_new]; rfl
    have H1 := Lib.hid (look_any asksName s (by omega) a (by omega) w.heap.size (w.alloc (.cells #[.string s] 9)) hc)
    clear hc
    generalize runL isIn (s.data.toList.drop a) = n at hT H1 hle
    have hbw : Below w.heap.size w (w.alloc (.cells #[.string s] 9)) := (Below.refl _ _).alloc (Nat.le_refl _) _
    by_cases h2 : 32 < n
    · rw [if_pos h2] at hT
      injection hT with e1 e2 e3
      subst e1 e2 e3
      obtain rfl : Z = a := hZ
      obtain ⟨z, hz⟩ : ∃ z, z = Z + n := ⟨_, rfl⟩
      rw [← hz] at H1
      have i2 : (32 : Int) < (z : Int) - (Z : Int) := by omega
      have i3 : (z : Int) ≤ (s.size : Int) := by omega
      clear hz h2
      go_enter Tryd.func15, Tryd.ntmps15
      go_wp2_with fail
      refine (HL.out _).mono ?_
      rintro e w1 ⟨rfl, rfl⟩
      go_wp2_with fail
      refine (HK.out _).mono ?_
      rintro e w1 ⟨rfl, rfl⟩
      go_wp2_with fail
      refine (H1.out).mono ?_
      rintro e w1 ⟨rfl, rfl⟩
      go_wp2
      go_ret3
      exact ⟨rfl, hbw⟩
    · rw [if_neg h2] at hT
      injection hT with e1 e2 e3
      subst e1 e2 e3
      have i2 : ¬ (32 : Int) < (Z : Int) - (a : Int) := by omega
      have i3 : (Z : Int) ≤ (s.size : Int) := by omega
      have i4 : (a : Int) ≤ (Z : Int) := by omega
      rw [← hZ] at H1
      clear hZ h2
      go_enter Tryd.func15, Tryd.ntmps15
      go_wp2_with fail
      refine (HL.out _).mono ?_
      rintro e w1 ⟨rfl, rfl⟩
      go_wp2_with fail
      refine (HK.out _).mono ?_
      rintro e w1 ⟨rfl, rfl⟩
      go_wp2_with fail
      refine (H1.out).mono ?_
      rintro e w1 ⟨rfl, rfl⟩
      go_wp2
      go_ret3
      exact ⟨rfl, hbw⟩
  case false =>
    rw [h1, if_neg (by simp)] at hT
    rw [h1] at HL
    cases h2 : isDg s[a]
    case true =>
      rw [h2, if_pos rfl] at hT
      rw [h2] at HD
      have hr0 : ¬ runL isDg (s.data.toList.drop a) = 0 := by rw [hl]; simp [runL, h2]
      have HN := Lib.hid (numberEnd_any s (by omega) a (by omega) w)
      have hbw : Below w.heap.size w (w.alloc (.cells #[.string s] 9)) := (Below.refl _ _).alloc (Nat.le_refl _) _
      clear HG h1 h2 hl
      cases hb : badE (s.data.toList.drop a)
      case true =>
        rw [(nEnd_bad hr0 hb).1, (nEnd_bad hr0 hb).2] at HN
        rw [hb, if_pos rfl] at hT
        injection hT with e1 e2 e3
        subst e1 e2 e3
        rw [← hZ] at HN
        clear hZ hr0 hb
        go_enter Tryd.func15, Tryd.ntmps15
        go_wp2_with fail
        refine (HL.out _).mono ?_
        rintro e w1 ⟨rfl, rfl⟩
        go_wp2_with fail
        refine (HD.out _).mono ?_
        rintro e w1 ⟨rfl, rfl⟩
        go_wp2_with fail
        refine (HN.out).mono ?_
        rintro e w1 ⟨rfl, rfl⟩
        go_wp2
        go_ret3
        exact ⟨rfl, hbw⟩
      case false =>
        rw [(nEnd_good hr0 hb).1, (nEnd_good hr0 hb).2] at HN
        rw [hb, if_neg (by simp)] at hT
        obtain ⟨hnum, hval⟩ := num_take hr0 hb
        have hnl := numN_le (s.data.toList.drop a)
        rw [List.length_drop, size_len] at hnl
        rw [← ext_take] at hnum hval
        have hS1 := HS.out.below (Nat.le_refl _) hbw
        have hxs : (s.extract a (a + numN (s.data.toList.drop a))).size ≤ 1000000 := by rw [ByteArray.size_extract]; omega
        have HM := Lib.hid (millionths_any _ hxs hnum _ hS1)
        rw [hval] at HM
        generalize numV (s.data.toList.drop a) = V at hT HM
        clear hnum hval hS1 hxs HS
        obtain ⟨z, hz⟩ : ∃ z, z = a + numN (s.data.toList.drop a) := ⟨_, rfl⟩
        rw [← hz] at HN HM
        have i1 : (a : Int) ≤ (z : Int) := by omega
        have i2 : (z : Int) ≤ (s.size : Int) := by omega
        by_cases h3 : 1000000000000000000 < V
        · rw [if_pos h3] at hT
          rw [if_pos h3, if_pos h3] at HM
          injection hT with e1 e2 e3
          subst e1 e2 e3
          obtain rfl : Z = a := hZ
          clear hr0 hb h3 hnl hz
          go_enter Tryd.func15, Tryd.ntmps15
          go_wp2_with fail
          refine (HL.out _).mono ?_
          rintro e w1 ⟨rfl, rfl⟩
          go_wp2_with fail
          refine (HD.out _).mono ?_
          rintro e w1 ⟨rfl, rfl⟩
          go_wp2_with fail
          refine (HN.out).mono ?_
          rintro e w1 ⟨rfl, rfl⟩
          go_wp2_with fail
          refine (HM.out).mono ?_
          rintro e w1 ⟨rfl, hb1⟩
          go_wp2
          go_ret3
          exact ⟨rfl, hbw.trans (hb1.mono hbw.size)⟩
        · rw [if_neg h3] at hT
          rw [if_neg h3, if_neg h3] at HM
          injection hT with e1 e2 e3
          subst e1 e2 e3
          obtain rfl : Z = z := by rw [hZ, hz]
          clear hZ hr0 hb h3 hnl hz
          go_enter Tryd.func15, Tryd.ntmps15
          go_wp2_with fail
          refine (HL.out _).mono ?_
          rintro e w1 ⟨rfl, rfl⟩
          go_wp2_with fail
          refine (HD.out _).mono ?_
          rintro e w1 ⟨rfl, rfl⟩
          go_wp2_with fail
          refine (HN.out).mono ?_
          rintro e w1 ⟨rfl, rfl⟩
          go_wp2_with fail
          refine (HM.out).mono ?_
          rintro e w1 ⟨rfl, hb1⟩
          go_wp2
          go_ret3
          exact ⟨rfl, hbw.trans (hb1.mono hbw.size)⟩
    case false =>
      rw [h2, if_neg (by simp)] at hT
      rw [h2] at HD
      clear HS hl
      cases h3 : isSg s[a]
      case true =>
        rw [h3, if_pos rfl] at hT
        rw [h3] at HG
        injection hT with e1 e2 e3
        subst e1 e2 e3
        subst hZ
        have hzz : ((a + 1 : Nat) : Int) = (a : Int) + 1 := by omega
        rw [hzz]
        clear hzz h1 h2 h3
        go_enter Tryd.func15, Tryd.ntmps15
        go_wp2_with fail
        refine (HL.out _).mono ?_
        rintro e w1 ⟨rfl, rfl⟩
        go_wp2_with fail
        refine (HD.out _).mono ?_
        rintro e w1 ⟨rfl, rfl⟩
        go_wp2_with fail
        refine (HG.out _).mono ?_
        rintro e w1 ⟨rfl, rfl⟩
        go_wp2
        go_ret3
        exact ⟨rfl, Below.refl _ _⟩
      case false =>
        rw [h3, if_neg (by simp)] at hT
        rw [h3] at HG
        injection hT with e1 e2 e3
        subst e1 e2 e3
        obtain rfl : Z = a := hZ
        clear h1 h2 h3
        go_enter Tryd.func15, Tryd.ntmps15
        go_wp2_with fail
        refine (HL.out _).mono ?_
        rintro e w1 ⟨rfl, rfl⟩
        go_wp2_with fail
        refine (HD.out _).mono ?_
        rintro e w1 ⟨rfl, rfl⟩
        go_wp2_with fail
        refine (HG.out _).mono ?_
        rintro e w1 ⟨rfl, rfl⟩
        go_wp2
        go_ret3
        exact ⟨rfl, Below.refl _ _⟩

end Go.Proofs.YtlfcmelencdghaaDoor
