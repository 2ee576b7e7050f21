/-
  What is proved: the contract of lex.millionths: what a number says. Conditions: the text is a number, and shorter than a million bytes; the variable ErrRange holds an error.
-/
import Derived.Test.YtlfcmelencdghaaDoorLxD
import Derived.Lib.AtoiErrMem
namespace Go.Proofs.YtlfcmelencdghaaDoor
open Go Go.RowKit Go.Lib Go.Proofs
set_option linter.unusedVariables false

theorem cut_pt : ∀ l : List UInt8, hasPt l = true → cutDot l = (l.take (runL isDg l), l.drop (runL isDg l + 1), true)
  | [], h => by simp [hasPt, runL] at h
  | b :: r, h => by
    by_cases hb : isDg b = true
    · have hr : runL isDg (b :: r) = runL isDg r + 1 := by simp [runL, hb]
      have h' : hasPt r = true := by unfold hasPt at h ⊢; rw [hr] at h; simpa using h
      have hne : ¬ b = 46 := fun e => by rw [e] at hb; simp [isDg] at hb
      rw [cutDot, if_neg hne, cut_pt r h', hr]; rfl
    · have hr : runL isDg (b :: r) = 0 := by simp [runL, hb]
      unfold hasPt at h; rw [hr] at h
      obtain rfl : b = 46 := by simpa using h
      rw [cutDot, if_pos rfl, hr]; rfl
theorem cut_all : ∀ l : List UInt8, runL isDg l = l.length → cutDot l = (l, [], false)
  | [], _ => rfl
  | b :: r, h => by
    by_cases hb : isDg b = true
    · have hr : runL isDg (b :: r) = runL isDg r + 1 := by simp [runL, hb]
      have hne : ¬ b = 46 := fun e => by rw [e] at hb; simp [isDg] at hb
      rw [cutDot, if_neg hne, cut_all r (by rw [hr] at h; simpa using h)]
    · have hr : runL isDg (b :: r) = 0 := by simp [runL, hb]
      rw [hr] at h; simp at h

/-- The text is a number, whatever it says. -/
def isNum (l : List UInt8) : Prop := runL isDg l ≠ 0 ∧ badE l = false ∧ numN l = l.length
theorem all_take {p : UInt8 → Bool} (l : List UInt8) (n : Nat) (hn : n ≤ runL p l) : ∀ b ∈ l.take n, p b = true := fun b hb => by
  obtain ⟨k, hkb⟩ := List.mem_iff_getElem?.1 hb
  have hk : k < n := by
    rcases Nat.lt_or_ge k n with h1 | h1
    · exact h1
    · rw [List.getElem?_eq_none (by rw [List.length_take]; omega)] at hkb; cases hkb
  rw [List.getElem?_take_of_lt hk] at hkb
  obtain ⟨c, hc, hpc⟩ := runL_all (p := p) l k (by omega)
  rw [hc] at hkb
  cases hkb
  exact hpc
/-- The digits that are read, and what they say. -/
theorem num_cut {l : List UInt8} (h : isNum l) : (cutDot l).2.1.length ≤ 4 ∧ (∀ b ∈ (cutDot l).1 ++ (cutDot l).2.1, isDg b = true) ∧ (cutDot l).1 ≠ [] ∧ (cutDot l).1.length + (cutDot l).2.1.length ≤ l.length ∧
    valN ((cutDot l).1 ++ (cutDot l).2.1 ++ List.replicate (6 - (cutDot l).2.1.length) 48) = numV l := by
  obtain ⟨h1, h2, h3⟩ := h
  have hle := runL_le isDg l
  cases hp : hasPt l
  · have hr : runL isDg l = l.length := by unfold numN at h3; rw [hp] at h3; exact h3
    rw [cut_all l hr]
    refine ⟨by simp, fun b hb => ?_, fun e => ?_, by simp, ?_⟩
    · have := all_take (p := isDg) l l.length (by omega) b
      rw [List.take_length] at this
      exact this (by simpa using hb)
    · dsimp only at e; rw [e] at hr h1; exact h1 rfl
    · have : numV l = valN (l.take (runL isDg l)) * 1000000 := by unfold numV; rw [hp]; rfl
      rw [this, hr, List.take_length]
      dsimp only
      rw [valN_app, valN_zeros, List.length_replicate, List.append_nil, Nat.add_zero]
      simp
  · have hf : ¬ fracL l = 0 ∧ ¬ 4 < fracL l := by
      unfold badE at h2; rw [hp] at h2; simpa using h2
    have hr : runL isDg l + 1 + fracL l = l.length := by unfold numN at h3; rw [hp] at h3; exact h3
    have hd : (l.drop (runL isDg l + 1)).length = fracL l := by rw [List.length_drop]; omega
    have ht : (l.drop (runL isDg l + 1)).take (fracL l) = l.drop (runL isDg l + 1) := List.take_of_length_le (by omega)
    have hlt : (l.take (runL isDg l)).length = runL isDg l := by rw [List.length_take]; omega
    rw [cut_pt l hp]
    dsimp only
    refine ⟨by omega, fun b hb => ?_, fun e => ?_, by omega, ?_⟩
    · rcases List.mem_append.1 hb with hb | hb
      · exact all_take l _ (Nat.le_refl _) b hb
      · rw [← ht] at hb
        exact all_take _ _ (Nat.le_refl _) b hb
    · rw [e] at hlt; exact h1 hlt.symm
    · have : numV l = valN (l.take (runL isDg l)) * 1000000 + valN ((l.drop (runL isDg l + 1)).take (fracL l)) * 10 ^ (6 - fracL l) := by unfold numV; rw [hp]; rfl
      rw [this, ht, valN_app, valN_zeros, valN_app, List.length_replicate, hd]
      have : 10 ^ fracL l * 10 ^ (6 - fracL l) = 1000000 := by rw [← Nat.pow_add, show fracL l + (6 - fracL l) = 6 by omega]
      rw [Nat.add_mul, Nat.mul_assoc, this]; omega

theorem cat_list (x y : ByteArray) : (x ++ y).data.toList = x.data.toList ++ y.data.toList := by rw [ByteArray.data_append, Array.toList_append]
theorem noughts_list (k : Nat) (h : k ≤ 4) : ((⟨#[48, 48, 48, 48, 48, 48]⟩ : ByteArray).extract k 6).data.toList = List.replicate (6 - k) 48 := by
  have e : k = 0 ∨ k = 1 ∨ k = 2 ∨ k = 3 ∨ k = 4 := by omega
  rcases e with e | e | e | e | e <;> rw [e] <;> rfl
/-- The variable ErrRange holds an error. -/
def Sent (w : World) : Prop := ∃ t p, w.cell? ⟨2, 0, none⟩ = some (.iface t p)
theorem Sent.below {w w' : World} {B : Nat} (h : Sent w) (hB : w.heap.size ≤ B) (hb : Below B w w') : Sent w' := by
  obtain ⟨t, p, hc⟩ := h
  have hlt : 2 < w.heap.size := World.block_lt_of_cell? w _ hc
  exact ⟨t, p, (hb.cell (p := ⟨2, 0, none⟩) (Nat.lt_of_lt_of_le hlt hB)).trans hc⟩

set_option maxHeartbeats 1000000 in
theorem millionths_any (s : ByteArray) (hs : s.size ≤ 1000000) (h : isNum s.data.toList) (w : World) (hS : Sent w) :
    Calls Tryd.prog 22 #[.string s] w fun e w' => e = .returned (.tuple #[.int .i64 (if 1000000000000000000 < numV s.data.toList then 0 else (numV s.data.toList : Int)), .int .i64 (if 1000000000000000000 < numV s.data.toList then 2 else 0)]) ∧ Below w.heap.size w w' := by
  obtain ⟨h1, h2, h3, h4, h5⟩ := num_cut h
  have HC := Lib.hid (cut_any s (by omega) w)
  rw [size_len] at h4
  generalize numV s.data.toList = V at h5 ⊢
  generalize cutDot s.data.toList = c at HC h1 h2 h3 h4 h5
  obtain ⟨xl, yl, b⟩ := c
  dsimp only at HC h1 h2 h3 h4 h5
  clear h
  obtain ⟨A, hA⟩ : ∃ A : Int, A = if 1000000000000000000 < V then 0 else (V : Int) := ⟨_, rfl⟩
  obtain ⟨E, hE⟩ : ∃ E : Int, E = if 1000000000000000000 < V then 2 else 0 := ⟨_, rfl⟩
  rw [← hA, ← hE]
  have HA := Lib.hid hA
  have HE := Lib.hid hE
  clear hA hE
  have HS := Lib.hid hS
  have HH := Lib.hid (And.intro h1 (And.intro h2 (And.intro h3 (And.intro h4 h5))))
  clear hS h1 h2 h3 h4 h5
  go_enter Tryd.func22, Tryd.ntmps22
  go_wp2_with fail
  refine (HC.out).mono ?_
  rintro e w1 ⟨x, y, rfl, hxy, hb1⟩
  have hy : y.size ≤ 4 := by rw [← size_len, hxy.out.2]; exact HH.out.1
  have hy6 : (y.size : Int) ≤ 6 := by omega
  have hx : x.size + y.size ≤ s.size := by have := HH.out.2.2.2.1; rw [← hxy.out.1, ← hxy.out.2, size_len, size_len] at this; exact this
  have i1 : ¬ 9223372036854775807 < x.size + y.size := by omega
  have i2 : ¬ 9223372036854775807 < x.size + y.size + (6 - y.size) := by omega
  have hz : (x ++ y ++ (⟨#[48, 48, 48, 48, 48, 48]⟩ : ByteArray).extract y.size 6).data.toList = xl ++ yl ++ List.replicate (6 - yl.length) 48 := by
    rw [cat_list, cat_list, hxy.out.1, hxy.out.2, noughts_list _ hy, ← size_len, hxy.out.2]
  have hzs : (x ++ y ++ (⟨#[48, 48, 48, 48, 48, 48]⟩ : ByteArray).extract y.size 6).size ≤ 2000000 := by
    rw [← size_len, hz]
    simp only [List.length_append, List.length_replicate]
    have := HH.out.2.2.2.1
    omega
  have hp : parseIntB 64 (x ++ y ++ (⟨#[48, 48, 48, 48, 48, 48]⟩ : ByteArray).extract y.size 6).data.toList = if V < 9223372036854775808 then .ok (V : Int) else .range := by
    rw [hz, ← HH.out.2.2.2.2]
    refine parse64 ?_ ?_
    · have := HH.out.2.2.1
      simp [this]
    · intro b hb
      rcases List.mem_append.1 hb with hb | hb
      · exact HH.out.2.1 b hb
      · rw [(List.mem_replicate.1 hb).2]; rfl
  have hS1 := HS.out.below (Nat.le_refl _) hb1
  by_cases hV : V < 9223372036854775808
  · rw [if_pos hV] at hp
    have HP := Lib.hid (Tryd.strconv_ParseInt_10_at64_ok _ (by omega) _ hp w1)
    clear hp hz hzs HC HH hxy hS1
    by_cases h18 : 1000000000000000000 < V
    · have g1 : (1000000000000000000 : Int) < (V : Int) := by omega
      obtain rfl : A = 0 := by rw [HA.out, if_pos h18]
      obtain rfl : E = 2 := by rw [HE.out, if_pos h18]
      clear h18 hV HA HE
      go_wp2_with fail
      refine (HP.out).mono ?_
      rintro e w2 ⟨rfl, hw2⟩
      have hb2 : Below w.heap.size w w2 := by
        rcases hw2 with rfl | ⟨t, rfl⟩
        · exact hb1
        · exact hb1.trans ((bytesWorld_below _ _ _).mono hb1.size)
      clear hw2
      go_wp2
      go_ret2
      exact ⟨rfl, hb2⟩
    · have g1 : ¬ (1000000000000000000 : Int) < (V : Int) := by omega
      obtain rfl : A = (V : Int) := by rw [HA.out, if_neg h18]
      obtain rfl : E = 0 := by rw [HE.out, if_neg h18]
      clear h18 hV HA HE
      go_wp2_with fail
      refine (HP.out).mono ?_
      rintro e w2 ⟨rfl, hw2⟩
      have hb2 : Below w.heap.size w w2 := by
        rcases hw2 with rfl | ⟨t, rfl⟩
        · exact hb1
        · exact hb1.trans ((bytesWorld_below _ _ _).mono hb1.size)
      clear hw2
      go_wp2
      go_ret2
      exact ⟨rfl, hb2⟩
  · rw [if_neg hV] at hp
    obtain ⟨t, p, hc⟩ := hS1
    have HP := Lib.hid (Tryd.strconv_ParseInt_10_at64_range _ (by omega) hp _ w1 hc (.inr ⟨_, _, rfl⟩))
    obtain rfl : A = 0 := by rw [HA.out, if_pos (by omega)]
    obtain rfl : E = 2 := by rw [HE.out, if_pos (by omega)]
    clear hp hz hzs HC HH hxy hV hc HA HE
    go_wp2_with fail
    refine (HP.out).mono ?_
    rintro e w2 ⟨n, rfl, -, -, hb2⟩
    go_wp2
    go_ret2
    exact ⟨rfl, hb1.trans (hb2.mono hb1.size)⟩

end Go.Proofs.YtlfcmelencdghaaDoor
