/-
  What is proved: of any amount that fits, what Parse comes to on its text is that amount. Plain mathematics on bytes. Conditions: the amount fits.
-/
import Derived.Test.YthdjpkpkkdnofaaDoorRefText
import Derived.Test.YthdjpkpkkdnofaaDoorParse
namespace Go.Proofs.YthdjpkpkkdnofaaDoor
open Go Go.RowKit Go.Lib Go.Proofs

theorem dig_toNat (k : Nat) (hk : k < 10) : (48 + UInt8.ofNat k).toNat = 48 + k := by
  rw [UInt8.toNat_add, UInt8.toNat_ofNat_of_lt' (by show k < 256; omega)]
  show (48 + k) % 256 = 48 + k
  omega

theorem scan_digit (pt i : Nat) (acc : Int) (k : Nat) (r : List UInt8) (hk : k < 10) (hi : i ≠ pt) (hf : fitsB (acc * 10 + k) = true) : scan pt i acc ((48 + UInt8.ofNat k) :: r) = scan pt (i + 1) (acc * 10 + k) r := by
  have e := dig_toNat k hk
  rw [scan, if_neg hi, e, if_neg (by omega)]
  have e2 : acc * 10 + (((48 + k : Nat) : Int) - 48) = acc * 10 + (k : Int) := by omega
  rw [e2, if_pos hf]

theorem scan_number (pt : Nat) : ∀ (q : Nat) (_ : q ≤ 1125899906842624) (r : List UInt8) (_ : (decDigits q).length ≤ pt), scan pt 0 0 (decDigits q ++ r) = scan pt (decDigits q).length q r := by
  intro q
  induction q using Nat.strongRecOn with
  | _ q ih =>
    intro hq r hl
    rw [dd_cons q] at hl ⊢
    by_cases h : q < 10
    · rw [if_pos h] at hl ⊢
      have hl' : 1 ≤ pt := by simpa using hl
      have := scan_digit pt 0 0 (q % 10) r (by omega) (by omega) (fitsB_yes (by omega) (by omega))
      simp only [List.cons_append, List.nil_append, List.length_singleton]
      rw [this]
      rw [show (0 : Int) * 10 + ((q % 10 : Nat) : Int) = (q : Int) by omega]
    · rw [if_neg h] at hl ⊢
      rw [List.length_append, List.length_singleton] at hl ⊢
      rw [List.append_assoc, ih (q / 10) (by omega) (by omega) _ (by omega)]
      have := scan_digit pt (decDigits (q / 10)).length ((q / 10 : Nat) : Int) (q % 10) r (by omega) (by omega) (fitsB_yes (by omega) (by omega))
      simp only [List.cons_append, List.nil_append]
      rw [this]
      rw [show ((q / 10 : Nat) : Int) * 10 + ((q % 10 : Nat) : Int) = (q : Int) by omega]

theorem dd_head : ∀ (q : Nat) (_ : 1 ≤ q), ∃ k r, decDigits q = (48 + UInt8.ofNat k) :: r ∧ 1 ≤ k ∧ k < 10 := by
  intro q
  induction q using Nat.strongRecOn with
  | _ q ih =>
    intro h1
    rw [dd_cons q]
    by_cases h : q < 10
    · rw [if_pos h]; exact ⟨q % 10, [], rfl, by omega, by omega⟩
    · rw [if_neg h]
      obtain ⟨k, r, e, hk⟩ := ih (q / 10) (by omega) (by omega)
      rw [e]; exact ⟨k, r ++ [48 + UInt8.ofNat (q % 10)], by simp, hk⟩
theorem dd_head0 (q : Nat) : ∃ k r, decDigits q = (48 + UInt8.ofNat k) :: r ∧ k < 10 := by
  by_cases h : 1 ≤ q
  · obtain ⟨k, r, e, _, hk⟩ := dd_head q h; exact ⟨k, r, e, hk⟩
  · obtain rfl : q = 0 := by omega
    exact ⟨0, [], by rw [dd_cons]; rfl, by omega⟩
theorem dig_ne (k : Nat) (hk : k < 10) (b : UInt8) (hb : b.toNat ≠ 48 + k) : (48 + UInt8.ofNat k) ≠ b := by
  intro e
  apply hb
  rw [← e, dig_toNat k hk]

theorem parseD_text (n : Nat) (hn : n ≤ 1125899906842624) : parseD (bodyText n) = some (n : Int) := by
  have hlen : (bodyText n).length = (decDigits (n / 100)).length + 3 := by simp [bodyText]
  obtain ⟨k, r, e, hk⟩ := dd_head0 (n / 100)
  have hpos : 1 ≤ (decDigits (n / 100)).length := by rw [e]; simp
  unfold parseD
  rw [hlen, show (decDigits (n / 100)).length + 3 - 3 = (decDigits (n / 100)).length by omega, if_neg]
  · unfold bodyText
    rw [scan_number _ (n / 100) (by omega) _ (Nat.le_refl _)]
    rw [scan, if_pos rfl]
    rw [scan_digit _ _ _ (n / 10 % 10) _ (by omega) (by omega) (fitsB_yes (by omega) (by omega))]
    rw [scan_digit _ _ _ (n % 10) _ (by omega) (by omega) (fitsB_yes (by omega) (by omega))]
    rw [scan]
    congr 1
    omega
  · intro h
    rcases h with h | h | ⟨h, h'⟩
    · omega
    · apply h
      unfold bodyText
      rw [List.getElem?_append_right (Nat.le_refl _)]
      simp
    · have hq : 10 ≤ n / 100 := by
        apply Nat.le_of_not_lt
        intro hlt
        rw [dd_cons, if_pos hlt] at h
        simp at h
      obtain ⟨k', r', e', hk1, hk2⟩ := dd_head (n / 100) (by omega)
      unfold bodyText at h'
      rw [e'] at h'
      simp only [List.cons_append, List.getElem?_cons_zero] at h'
      exact dig_ne k' hk2 48 (by show 48 ≠ 48 + k'; omega) (Option.some.inj h')

theorem parse_text (c : Int) (hf : fitsB c = true) : parseR (centsText c) = (c, 0) := by
  obtain ⟨h1, h2⟩ := fitsB_iff.1 hf
  by_cases hc : c < 0
  · rw [show centsText c = 45 :: bodyText c.natAbs by simp [centsText, hf, hc]]
    have hp : hasPrefix (45 :: bodyText c.natAbs) [45] = true := by simp [hasPrefix]
    unfold parseR
    rw [hp]
    have ht : trimPrefix (45 :: bodyText c.natAbs) [45] = bodyText c.natAbs := by unfold trimPrefix; rw [hp]; simp
    rw [ht]
    unfold parseO
    rw [parseD_text c.natAbs (by omega)]
    have hne : (c.natAbs : Int) ≠ 0 := by omega
    simp only [if_true, hne, if_false, parseVE]
    rw [show -(c.natAbs : Int) = c by omega]
  · rw [show centsText c = bodyText c.natAbs by simp [centsText, hf, hc]]
    have hp : hasPrefix (bodyText c.natAbs) [45] = false := by
      obtain ⟨k, r, e, hk⟩ := dd_head0 (c.natAbs / 100)
      unfold bodyText
      rw [e]
      have hne := dig_ne k hk 45 (by show 45 ≠ 48 + k; omega)
      simp [hasPrefix, List.isPrefixOf, Ne.symm hne]
    unfold parseR
    rw [hp]
    have ht : trimPrefix (bodyText c.natAbs) [45] = bodyText c.natAbs := by unfold trimPrefix; rw [hp]; simp
    rw [ht]
    unfold parseO
    rw [parseD_text c.natAbs (by omega)]
    simp only [parseVE]
    rw [show (c.natAbs : Int) = c by omega]
    rfl

end Go.Proofs.YthdjpkpkkdnofaaDoor
