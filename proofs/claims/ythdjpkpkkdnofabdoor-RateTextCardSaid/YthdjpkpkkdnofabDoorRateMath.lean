/-
  What is proved: plain facts on the bytes of a rate's text: digits and their number, the digits behind the point, noughts trimmed. Conditions: none but the ranges that are said.
-/
import Derived.Test.YthdjpkpkkdnofabDoorRateTell
namespace Go.Proofs.YthdjpkpkkdnofabDoor
open Go Go.RowKit Go.Sort Go.Lib Go.Proofs

theorem dig_toNat (k : Nat) (hk : k < 10) : (48 + UInt8.ofNat k).toNat = 48 + k := by
  rw [UInt8.toNat_add, UInt8.toNat_ofNat_of_lt' (by show k < 256; omega)]
  show (48 + k) % 256 = 48 + k
  omega
theorem dig_isDig (k : Nat) (hk : k < 10) : isDig (48 + UInt8.ofNat k) = true := by
  unfold isDig; rw [dig_toNat k hk]; simp; omega
theorem isDig_iff {b : UInt8} : isDig b = true ↔ 48 ≤ b.toNat ∧ b.toNat ≤ 57 := by simp [isDig]
theorem dig_of {b : UInt8} (h : isDig b = true) : 48 + UInt8.ofNat (b.toNat - 48) = b := by
  obtain ⟨h1, h2⟩ := isDig_iff.1 h
  apply UInt8.toNat_inj.1
  rw [dig_toNat _ (by omega)]; omega
theorem dd_some (n : Nat) : ∃ a r, decDigits n = a :: r := by
  rw [dd_cons]
  split
  · exact ⟨_, _, rfl⟩
  · cases h : decDigits (n / 10) with
    | nil => exact ⟨_, _, rfl⟩
    | cons x t => exact ⟨x, t ++ _, rfl⟩
theorem dd_digs (n : Nat) : (decDigits n).all isDig = true := by
  induction n using Nat.strongRecOn with
  | _ n ih =>
    rw [dd_cons]
    split
    · simp [dig_isDig (n % 10) (by omega)]
    · rw [List.all_append, ih (n / 10) (by omega)]; simp [dig_isDig (n % 10) (by omega)]

/-- The four digits behind the point. -/
def dig4 (f : Nat) : List UInt8 := [48 + UInt8.ofNat (f / 1000), 48 + UInt8.ofNat (f / 100 % 10), 48 + UInt8.ofNat (f / 10 % 10), 48 + UInt8.ofNat (f % 10)]
theorem dd_drop (f : Nat) (hf : f < 10000) : (decDigits (10000 + f)).drop 1 = dig4 f := by
  rw [dd_cons, if_neg (by omega), dd_cons ((10000 + f) / 10), if_neg (by omega), dd_cons ((10000 + f) / 10 / 10), if_neg (by omega), dd_cons ((10000 + f) / 10 / 10 / 10), if_neg (by omega), dd_cons ((10000 + f) / 10 / 10 / 10 / 10), if_pos (by omega)]
  rw [show (10000 + f) / 10 / 10 / 10 % 10 = f / 1000 by omega, show (10000 + f) / 10 / 10 % 10 = f / 100 % 10 by omega, show (10000 + f) / 10 % 10 = f / 10 % 10 by omega, show (10000 + f) % 10 = f % 10 by omega]
  rfl

theorem trim_snoc48 (l : List UInt8) : trimRightB (l ++ [48]) 48 = trimRightB l 48 := by
  unfold trimRightB; rw [List.reverse_append]; simp
theorem trim_snoc (l : List UInt8) (b : UInt8) (hb : b ≠ 48) : trimRightB (l ++ [b]) 48 = l ++ [b] := by
  unfold trimRightB; rw [List.reverse_append]
  simp [beq_eq_false_iff_ne.2 hb]
theorem snoc_of {t : ByteArray} {p : Nat} (hp : t.size = p + 1) : t.data.toList = (t.extract 0 p).data.toList ++ [t[p]] := by
  rw [Lib.extract_data]
  have h1 : p < t.data.toList.length := by rw [size_len]; omega
  have e : t.data.toList = t.data.toList.take p ++ t.data.toList.drop p := (List.take_append_drop p _).symm
  have e2 : t.data.toList.drop p = [t[p]] := by
    rw [List.drop_eq_getElem_cons h1, List.drop_eq_nil_of_le (by rw [size_len]; omega)]; rfl
  conv => lhs; rw [e, e2]
  simp
theorem trim_step {t : ByteArray} {p : Nat} (hp : t.size = p + 1) (h : (t[p]'(by omega)).toNat = 48) : trimRightB (t.extract 0 p).data.toList 48 = trimRightB t.data.toList 48 := by
  have e : t[p]'(by omega) = 48 := UInt8.toNat_inj.1 (by rw [h]; rfl)
  rw [snoc_of hp, e, trim_snoc48]
theorem trim_stay {t : ByteArray} {p : Nat} (hp : t.size = p + 1) (h : ¬ (t[p]'(by omega)).toNat = 48) : trimRightB t.data.toList 48 = t.data.toList := by
  have e : t[p]'(by omega) ≠ 48 := fun e => h (by rw [e]; rfl)
  rw [snoc_of hp, trim_snoc _ _ e]
theorem trim_pos {t : ByteArray} {T : List UInt8} (hT : T ≠ []) (h : trimRightB t.data.toList 48 = T) : ∃ p, t.size = p + 1 := by
  by_cases h0 : t.size = 0
  · have hl : t.data.toList = [] := List.eq_nil_of_length_eq_zero (by rw [size_len]; exact h0)
    rw [hl] at h
    exact absurd h.symm hT
  · exact ⟨t.size - 1, by omega⟩
theorem dig_ne48 (k : Nat) (h1 : 1 ≤ k) (hk : k < 10) : 48 + UInt8.ofNat k ≠ 48 := by
  intro e
  have := congrArg UInt8.toNat e
  rw [dig_toNat k hk] at this
  have e48 : (48 : UInt8).toNat = 48 := rfl
  omega
theorem dig_0 : 48 + UInt8.ofNat 0 = (48 : UInt8) := rfl

/-- Noughts behind the last other digit are trimmed. -/
theorem trim_dig4 (f : Nat) (h0 : 0 < f) (hf : f < 10000) :
    (f % 10 ≠ 0 ∧ trimRightB (dig4 f) 48 = dig4 f) ∨
    (f % 10 = 0 ∧ f / 10 % 10 ≠ 0 ∧ trimRightB (dig4 f) 48 = [48 + UInt8.ofNat (f / 1000), 48 + UInt8.ofNat (f / 100 % 10), 48 + UInt8.ofNat (f / 10 % 10)]) ∨
    (f % 10 = 0 ∧ f / 10 % 10 = 0 ∧ f / 100 % 10 ≠ 0 ∧ trimRightB (dig4 f) 48 = [48 + UInt8.ofNat (f / 1000), 48 + UInt8.ofNat (f / 100 % 10)]) ∨
    (f % 10 = 0 ∧ f / 10 % 10 = 0 ∧ f / 100 % 10 = 0 ∧ f / 1000 ≠ 0 ∧ trimRightB (dig4 f) 48 = [48 + UInt8.ofNat (f / 1000)]) := by
  have s4 : dig4 f = [48 + UInt8.ofNat (f / 1000), 48 + UInt8.ofNat (f / 100 % 10), 48 + UInt8.ofNat (f / 10 % 10)] ++ [48 + UInt8.ofNat (f % 10)] := rfl
  by_cases h1 : f % 10 = 0
  · rw [s4, h1, dig_0, trim_snoc48]
    have s3 : [48 + UInt8.ofNat (f / 1000), 48 + UInt8.ofNat (f / 100 % 10), 48 + UInt8.ofNat (f / 10 % 10)] = [48 + UInt8.ofNat (f / 1000), 48 + UInt8.ofNat (f / 100 % 10)] ++ [48 + UInt8.ofNat (f / 10 % 10)] := rfl
    by_cases h2 : f / 10 % 10 = 0
    · rw [s3, h2, dig_0, trim_snoc48]
      have s2 : [48 + UInt8.ofNat (f / 1000), 48 + UInt8.ofNat (f / 100 % 10)] = [48 + UInt8.ofNat (f / 1000)] ++ [48 + UInt8.ofNat (f / 100 % 10)] := rfl
      by_cases h3 : f / 100 % 10 = 0
      · rw [s2, h3, dig_0, trim_snoc48]
        have s1 : [48 + UInt8.ofNat (f / 1000)] = [] ++ [48 + UInt8.ofNat (f / 1000)] := rfl
        have h4 : f / 1000 ≠ 0 := by omega
        right; right; right
        refine ⟨rfl, rfl, rfl, h4, ?_⟩
        rw [s1, trim_snoc _ _ (dig_ne48 _ (by omega) (by omega))]
      · right; right; left
        refine ⟨rfl, rfl, h3, ?_⟩
        rw [s2, trim_snoc _ _ (dig_ne48 _ (by omega) (by omega))]
    · right; left
      refine ⟨rfl, h2, ?_⟩
      rw [s3, trim_snoc _ _ (dig_ne48 _ (by omega) (by omega))]
  · left
    refine ⟨h1, ?_⟩
    rw [s4, trim_snoc _ _ (dig_ne48 _ (by omega) (by omega))]
theorem trim_ne {f : Nat} (h0 : 0 < f) (hf : f < 10000) : trimRightB ((decDigits (10000 + f)).drop 1) 48 ≠ [] := by
  rw [dd_drop f hf]
  rcases trim_dig4 f h0 hf with ⟨_, e⟩ | ⟨_, _, e⟩ | ⟨_, _, _, e⟩ | ⟨_, _, _, _, e⟩ <;> rw [e] <;> simp [dig4]
theorem frac_zero : fracText 0 = [] := rfl
theorem frac_some {f : Nat} (h : ¬ f = 0) : fracText f = 46 :: trimRightB ((decDigits (10000 + f)).drop 1) 48 := by unfold fracText; rw [if_neg h]

/-- The number that digits tell, behind another one. -/
def valN (r : Nat) (l : List UInt8) : Nat := l.foldl (fun r b => 10 * r + (b.toNat - 48)) r
theorem valN_nil (r : Nat) : valN r [] = r := rfl
theorem valN_cons (r : Nat) (b : UInt8) (t : List UInt8) : valN r (b :: t) = valN (10 * r + (b.toNat - 48)) t := by unfold valN; rw [List.foldl_cons]
theorem valN_ge : ∀ (l : List UInt8) (r : Nat), r ≤ valN r l
  | [], r => Nat.le_refl _
  | b :: t, r => by
    have := valN_ge t (10 * r + (b.toNat - 48))
    rw [valN_cons]; omega
theorem valN_append : ∀ (a b : List UInt8) (r : Nat), valN r (a ++ b) = valN (valN r a) b
  | [], b, r => rfl
  | x :: t, b, r => by rw [List.cons_append, valN_cons, valN_cons]; exact valN_append t b _
theorem valN_dd : ∀ (l : List UInt8) (r : Nat), 0 < r → l.all isDig = true → decDigits (valN r l) = decDigits r ++ l
  | [], r, _, _ => by rw [valN_nil]; simp
  | b :: t, r, hr, hl => by
    simp only [List.all_cons, Bool.and_eq_true] at hl
    obtain ⟨h1, h2⟩ := isDig_iff.1 hl.1
    have e := dd_cons (10 * r + (b.toNat - 48))
    rw [if_neg (by omega), show (10 * r + (b.toNat - 48)) / 10 = r by omega, show (10 * r + (b.toNat - 48)) % 10 = b.toNat - 48 by omega, dig_of hl.1] at e
    rw [valN_cons, valN_dd t _ (by omega) hl.2, e]
    simp
theorem dd_val (n : Nat) : valN 0 (decDigits n) = n := by
  induction n using Nat.strongRecOn with
  | _ n ih =>
    rw [dd_cons]
    split
    · rw [valN_cons, valN_nil, dig_toNat _ (by omega)]; omega
    · rw [valN_append, ih (n / 10) (by omega)]; rw [valN_cons, valN_nil, dig_toNat _ (by omega)]; omega
/-- A whole number's digits are those of what they tell. -/
theorem whole_dd {W : List UInt8} (h : wholeB W = true) : decDigits (valN 0 W) = W := by
  unfold wholeB at h
  simp only [Bool.or_eq_true, Bool.and_eq_true] at h
  rcases h with h | h
  · rw [beq_iff_eq.1 h]
    rw [dd_cons]; rfl
  · cases W with
    | nil => simp [digB] at h
    | cons b t =>
      have hd := h.1
      unfold digB at hd
      simp only [Bool.and_eq_true, List.all_cons] at hd
      have hb48 : b ≠ 48 := by intro e; rw [e] at h; simp at h
      obtain ⟨h1, h2⟩ := isDig_iff.1 hd.2.1
      have hne : b.toNat ≠ 48 := fun e => hb48 (UInt8.toNat_inj.1 (by rw [e]; rfl))
      rw [valN_cons, valN_dd t _ (by omega) hd.2.2, dd_cons, if_pos (by omega), show (10 * 0 + (b.toNat - 48)) % 10 = b.toNat - 48 by omega, dig_of hd.2.1]
      rfl
theorem dd_whole (n : Nat) : wholeB (decDigits n) = true := by
  unfold wholeB
  by_cases h0 : n = 0
  · subst h0; rw [dd_cons]; rfl
  · obtain ⟨a, r, e⟩ := dd_some n
    have hd := dd_digs n
    have hv := dd_val n
    have hx : a ≠ 48 ∨ decDigits n = [48] := by
      by_cases ha : a = 48
      · right
        have : ∀ m, 0 < m → (decDigits m).head? ≠ some 48 := by
          intro m
          induction m using Nat.strongRecOn with
          | _ m ih =>
            intro hm
            rw [dd_cons]
            split
            · intro hh; exact dig_ne48 (m % 10) (by omega) (by omega) (Option.some.inj hh)
            · have h2 := ih (m / 10) (by omega) (by omega)
              obtain ⟨x, y, exy⟩ := dd_some (m / 10)
              rw [exy] at h2 ⊢
              simpa using h2
        exact absurd (by rw [e, ha]; rfl) (this n (by omega))
      · exact .inl ha
    rcases hx with hx | hx
    · rw [e] at hd ⊢
      simp only [digB, List.isEmpty_cons, hd]
      simp [hx]
    · rw [hx]; rfl

/-- What the digits behind the point tell, of ten thousand. -/
def fracN : Nat → List UInt8 → Nat
  | _, [] => 0
  | sc, b :: t => sc * (b.toNat - 48) + fracN (sc / 10) t
theorem frac_cases {F : List UInt8} (h : fracB F = true) : ∃ (P : List UInt8) (b : UInt8), F = P ++ [b] ∧ b ≠ 48 ∧ F.all isDig = true ∧ F.length ≤ 4 := by
  have hd := frac_dig h
  unfold fracB at h
  simp only [Bool.and_eq_true] at h
  have hlast := h.2
  cases hF : F.reverse with
  | nil =>
    have : F = [] := by simpa using hF
    rw [this] at h; simp [digB] at h
  | cons b t =>
    have e : F = t.reverse ++ [b] := by
      have := congrArg List.reverse hF
      simpa using this
    refine ⟨t.reverse, b, e, ?_, hd.1, hd.2⟩
    intro hb
    rw [e, hb] at hlast
    simp at hlast
theorem frac_pad {F : List UInt8} (hd : F.all isDig = true) (hl : F.length ≤ 4) : dig4 (fracN 1000 F) = F ++ List.replicate (4 - F.length) 48 ∧ fracN 1000 F < 10000 ∧ ∀ r, valN r (F ++ List.replicate (4 - F.length) 48) = 10000 * r + fracN 1000 F := by
  have key : ∀ a b c d : UInt8, isDig a = true → isDig b = true → isDig c = true → isDig d = true → dig4 (1000 * (a.toNat - 48) + (100 * (b.toNat - 48) + (10 * (c.toNat - 48) + (d.toNat - 48)))) = [a, b, c, d] ∧ 1000 * (a.toNat - 48) + (100 * (b.toNat - 48) + (10 * (c.toNat - 48) + (d.toNat - 48))) < 10000 ∧ ∀ r, valN r [a, b, c, d] = 10000 * r + (1000 * (a.toNat - 48) + (100 * (b.toNat - 48) + (10 * (c.toNat - 48) + (d.toNat - 48)))) := by
    intro a b c d ha hb hc hdd
    obtain ⟨a1, a2⟩ := isDig_iff.1 ha
    obtain ⟨b1, b2⟩ := isDig_iff.1 hb
    obtain ⟨c1, c2⟩ := isDig_iff.1 hc
    obtain ⟨d1, d2⟩ := isDig_iff.1 hdd
    refine ⟨?_, by omega, fun r => by simp only [valN_cons, valN_nil]; omega⟩
    generalize hx : 1000 * (a.toNat - 48) + (100 * (b.toNat - 48) + (10 * (c.toNat - 48) + (d.toNat - 48))) = x
    unfold dig4
    rw [show x / 1000 = a.toNat - 48 by omega, show x / 100 % 10 = b.toNat - 48 by omega, show x / 10 % 10 = c.toNat - 48 by omega, show x % 10 = d.toNat - 48 by omega, dig_of ha, dig_of hb, dig_of hc, dig_of hdd]
  have hz : isDig 48 = true := rfl
  have z0 : (48 : UInt8).toNat - 48 = 0 := rfl
  match F, hd, hl with
  | [], _, _ => exact key 48 48 48 48 hz hz hz hz
  | [a], hd, _ =>
    simp only [List.all_cons, Bool.and_eq_true] at hd
    have := key a 48 48 48 hd.1 hz hz hz
    rw [z0] at this
    simpa [fracN] using this
  | [a, b], hd, _ =>
    simp only [List.all_cons, Bool.and_eq_true] at hd
    have := key a b 48 48 hd.1 hd.2.1 hz hz
    rw [z0] at this
    simpa [fracN] using this
  | [a, b, c], hd, _ =>
    simp only [List.all_cons, Bool.and_eq_true] at hd
    have := key a b c 48 hd.1 hd.2.1 hd.2.2.1 hz
    rw [z0] at this
    simpa [fracN] using this
  | [a, b, c, d], hd, _ =>
    simp only [List.all_cons, Bool.and_eq_true] at hd
    have := key a b c d hd.1 hd.2.1 hd.2.2.1 hd.2.2.2.1
    simpa [fracN] using this
  | _ :: _ :: _ :: _ :: _ :: _, _, hl => simp at hl
theorem trim_zeros (l : List UInt8) (k : Nat) : trimRightB (l ++ List.replicate k 48) 48 = trimRightB l 48 := by
  induction k with
  | zero => simp
  | succ k ih => rw [List.replicate_succ', ← List.append_assoc, trim_snoc48, ih]
/-- What stands behind the point is told again. -/
theorem frac_told {F : List UInt8} (h : fracB F = true) : fracText (fracN 1000 F) = 46 :: F ∧ 0 < fracN 1000 F := by
  obtain ⟨P, b, e, hb, hd, hl⟩ := frac_cases h
  obtain ⟨p1, p2, _⟩ := frac_pad hd hl
  have ht : trimRightB (dig4 (fracN 1000 F)) 48 = F := by
    rw [p1, trim_zeros]
    conv => lhs; rw [e]
    rw [trim_snoc _ _ hb, ← e]
  have hpos : 0 < fracN 1000 F := by
    apply Nat.pos_of_ne_zero
    intro h0
    rw [h0] at ht
    have : trimRightB (dig4 0) 48 = [] := by decide
    rw [this] at ht
    rw [← ht] at e
    simp at e
  refine ⟨?_, hpos⟩
  rw [frac_some (by omega), dd_drop _ p2, ht]
/-- And what is told behind the point is right, and read again. -/
theorem told_frac (f : Nat) (h0 : 0 < f) (hf : f < 10000) : fracB (trimRightB (dig4 f) 48) = true ∧ fracN 1000 (trimRightB (dig4 f) 48) = f := by
  have a1 := dig_isDig (f / 1000) (by omega)
  have a2 := dig_isDig (f / 100 % 10) (by omega)
  have a3 := dig_isDig (f / 10 % 10) (by omega)
  have a4 := dig_isDig (f % 10) (by omega)
  have n1 := dig_toNat (f / 1000) (by omega)
  have n2 := dig_toNat (f / 100 % 10) (by omega)
  have n3 := dig_toNat (f / 10 % 10) (by omega)
  have n4 := dig_toNat (f % 10) (by omega)
  rcases trim_dig4 f h0 hf with ⟨h, e⟩ | ⟨z1, h, e⟩ | ⟨z1, z2, h, e⟩ | ⟨z1, z2, z3, h, e⟩
  · rw [e]
    have hne := dig_ne48 (f % 10) (by omega) (by omega)
    refine ⟨by simp only [fracB, digB, dig4, List.all_cons, a1, a2, a3, a4]; simp [hne], ?_⟩
    simp only [dig4, fracN, n1, n2, n3, n4]; omega
  · rw [e]
    have hne := dig_ne48 (f / 10 % 10) (by omega) (by omega)
    refine ⟨by simp only [fracB, digB, List.all_cons, a1, a2, a3]; simp [hne], ?_⟩
    simp only [fracN, n1, n2, n3]; omega
  · rw [e]
    have hne := dig_ne48 (f / 100 % 10) (by omega) (by omega)
    refine ⟨by simp only [fracB, digB, List.all_cons, a1, a2]; simp [hne], ?_⟩
    simp only [fracN, n1, n2]; omega
  · rw [e]
    have hne := dig_ne48 (f / 1000) (by omega) (by omega)
    refine ⟨by simp only [fracB, digB, List.all_cons, a1]; simp [hne], ?_⟩
    simp only [fracN, n1]; omega

end Go.Proofs.YthdjpkpkkdnofabDoor
