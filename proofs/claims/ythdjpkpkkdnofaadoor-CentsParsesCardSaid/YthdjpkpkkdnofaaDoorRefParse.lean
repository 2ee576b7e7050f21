/-
  What is proved: the contract of the document's own Parse of an amount, by a plain function on bytes, and that this function and that of cents.Parse are the same. Conditions: the text is shorter than 2^62 bytes.
-/
import Derived.Test.YthdjpkpkkdnofaaDoorParse
import Derived.Lib.IndexBytes
namespace Go.Proofs.YthdjpkpkkdnofaaDoor
open Go Go.RowKit Go.Lib Go.Proofs

/-- As 'scan', but whatever the amount. -/
def scan2 (pt : Nat) : Nat → Int → List UInt8 → Option Int
  | _, acc, [] => some acc
  | i, acc, b :: r => if i = pt then scan2 pt (i + 1) acc r else if b.toNat < 48 ∨ 57 < b.toNat then none else scan2 pt (i + 1) (10 * acc + (b.toNat - 48)) r
def rparseO (below : Bool) (d : List UInt8) : Option Int :=
  if d.length < 4 ∨ 17 < d.length ∨ d[d.length - 3]? ≠ some 46 then none else
  match scan2 (d.length - 3) 0 0 d with
  | none => none
  | some n => if (d[0]? = some 48 ∧ 4 < d.length) ∨ 1125899906842624 < n ∨ (below = true ∧ n = 0) then none else if below = true then some (-n) else some n

theorem scan2_le (pt : Nat) : ∀ (l : List UInt8) (i : Nat) (acc n : Int), 0 ≤ acc → scan2 pt i acc l = some n → acc ≤ n
  | [], i, acc, n, _, h => by rw [scan2] at h; have := Option.some.inj h; omega
  | b :: r, i, acc, n, h0, h => by
    rw [scan2] at h
    split at h
    · exact scan2_le pt r _ _ _ h0 h
    · split at h
      · cases h
      · have := scan2_le pt r _ _ _ (by omega) h
        omega
theorem scan_scan2 (pt : Nat) : ∀ (l : List UInt8) (i : Nat) (acc : Int), 0 ≤ acc → acc ≤ 1125899906842624 →
    scan pt i acc l = match scan2 pt i acc l with | none => none | some n => if n ≤ 1125899906842624 then some n else none
  | [], i, acc, h0, h1 => by rw [scan, scan2]; simp [h1]
  | b :: r, i, acc, h0, h1 => by
    rw [scan, scan2]
    by_cases hp : i = pt
    · rw [if_pos hp, if_pos hp]; exact scan_scan2 pt r _ _ h0 h1
    · rw [if_neg hp, if_neg hp]
      by_cases hd : b.toNat < 48 ∨ 57 < b.toNat
      · rw [if_pos hd, if_pos hd]
      · rw [if_neg hd, if_neg hd]
        have e : acc * 10 + ((b.toNat : Int) - 48) = 10 * acc + ((b.toNat : Int) - 48) := by omega
        rw [e]
        by_cases hf : 10 * acc + ((b.toNat : Int) - 48) ≤ 1125899906842624
        · rw [if_pos (fitsB_yes (by omega) hf)]
          exact scan_scan2 pt r _ _ (by omega) hf
        · rw [if_neg (by rw [fitsB_no (by omega)]; simp)]
          cases h2 : scan2 pt (i + 1) (10 * acc + ((b.toNat : Int) - 48)) r with
          | none => rfl
          | some n =>
            have := scan2_le pt r _ _ _ (by omega) h2
            simp only
            rw [if_neg (by omega)]
theorem scan2_big1 (pt : Nat) : ∀ (l : List UInt8) (i : Nat) (acc n : Int), 0 ≤ acc → pt < i → scan2 pt i acc l = some n → acc * 10 ^ l.length ≤ n
  | [], i, acc, n, _, _, h => by rw [scan2] at h; have := Option.some.inj h; simp; omega
  | b :: r, i, acc, n, h0, hi, h => by
    rw [scan2, if_neg (by omega)] at h
    split at h
    · cases h
    · have := scan2_big1 pt r _ _ _ (by omega) (by omega) h
      rw [List.length_cons, Int.pow_succ, Int.mul_comm (10 ^ r.length) 10, ← Int.mul_assoc]
      refine Int.le_trans (Int.mul_le_mul_of_nonneg_right (by omega) (Int.le_of_lt (Int.pow_pos (by decide)))) this
theorem scan2_big2 (pt : Nat) : ∀ (l : List UInt8) (i : Nat) (acc n : Int), 0 ≤ acc → i ≤ pt → scan2 pt i acc l = some n → acc * 10 ^ (l.length - 1) ≤ n
  | [], i, acc, n, _, _, h => by rw [scan2] at h; have := Option.some.inj h; simp; omega
  | b :: r, i, acc, n, h0, hi, h => by
    rw [scan2] at h
    split at h
    · have := scan2_big1 pt r _ _ _ h0 (by omega) h
      simpa using this
    · split at h
      · cases h
      · have h2 := scan2_big2 pt r _ _ _ (by omega) (by omega) h
        cases r with
        | nil => simp at h2 ⊢; omega
        | cons x r' =>
          simp only [List.length_cons, Nat.add_sub_cancel] at h2 ⊢
          rw [Int.pow_succ, Int.mul_comm (10 ^ r'.length) 10, ← Int.mul_assoc]
          refine Int.le_trans (Int.mul_le_mul_of_nonneg_right (by omega) (Int.le_of_lt (Int.pow_pos (by decide)))) h2

/-- A long text without a leading nought is beyond the limits. -/
theorem scan_long (d : List UInt8) (hl : 17 < d.length) (h0 : d[0]? ≠ some 48) : scan (d.length - 3) 0 0 d = none := by
  rw [scan_scan2 _ _ _ _ (by omega) (by omega)]
  cases h2 : scan2 (d.length - 3) 0 0 d with
  | none => rfl
  | some n =>
    simp only
    rw [if_neg]
    cases d with
    | nil => simp at hl
    | cons b r =>
      simp only [List.length_cons] at hl h2
      rw [scan2, if_neg (by omega)] at h2
      split at h2
      · cases h2
      · rename_i hd
        have hb : b.toNat ≠ 48 := fun e => h0 (by simp only [List.getElem?_cons_zero]; exact congrArg some (UInt8.toNat_inj.1 (by rw [e]; rfl)))
        have h3 := scan2_big2 _ r _ _ _ (by omega) (by omega) h2
        have h4 : (10 : Int) ^ 16 ≤ 10 ^ (r.length - 1) := by
          have := Nat.pow_le_pow_right (show 0 < 10 by omega) (show 16 ≤ r.length - 1 by omega)
          exact_mod_cast this
        have h5 : 1 * (10 : Int) ^ (r.length - 1) ≤ (10 * 0 + ((b.toNat : Int) - 48)) * 10 ^ (r.length - 1) := Int.mul_le_mul_of_nonneg_right (by omega) (Int.le_of_lt (Int.pow_pos (by decide)))
        have h6 : (10 : Int) ^ 16 = 10000000000000000 := by decide
        omega

theorem parseO_eq (below : Bool) (d : List UInt8) : parseO below d = rparseO below d := by
  unfold parseO rparseO parseD
  by_cases h1 : d.length < 4
  · rw [if_pos (Or.inl h1), if_pos (Or.inl h1)]
  by_cases h2 : d[d.length - 3]? ≠ some 46
  · rw [if_pos (Or.inr (Or.inl h2)), if_pos (Or.inr (Or.inr h2))]
  by_cases h3 : 4 < d.length ∧ d[0]? = some 48
  · rw [if_pos (Or.inr (Or.inr h3))]
    show none = _
    by_cases h4 : 17 < d.length
    · rw [if_pos (Or.inr (Or.inl h4))]
    · rw [if_neg (by intro h; rcases h with h | h | h; exact h1 h; exact h4 h; exact h2 h)]
      cases scan2 (d.length - 3) 0 0 d with
      | none => rfl
      | some n => simp only; rw [if_pos (Or.inl ⟨h3.2, h3.1⟩)]
  · rw [if_neg (by intro h; rcases h with h | h | h; exact h1 h; exact h2 h; exact h3 h)]
    by_cases h4 : 17 < d.length
    · rw [if_pos (Or.inr (Or.inl h4)), scan_long d h4 (fun e => h3 ⟨by omega, e⟩)]
    · rw [if_neg (by intro h; rcases h with h | h | h; exact h1 h; exact h4 h; exact h2 h)]
      rw [scan_scan2 _ _ _ _ (by omega) (by omega)]
      cases h5 : scan2 (d.length - 3) 0 0 d with
      | none => rfl
      | some n =>
        simp only
        by_cases h6 : n ≤ 1125899906842624
        · rw [if_pos h6]
          simp only
          by_cases hb : below = true
          · by_cases h7 : n = 0
            · rw [if_pos hb, if_pos h7, if_pos (Or.inr (Or.inr ⟨hb, h7⟩))]
            · rw [if_pos hb, if_neg h7, if_neg (by intro h; rcases h with h | h | h; exact h3 ⟨h.2, h.1⟩; omega; exact h7 h.2), if_pos hb]
          · rw [if_neg hb, if_neg (by intro h; rcases h with h | h | h; exact h3 ⟨h.2, h.1⟩; omega; exact hb h.1), if_neg hb]
        · rw [if_neg h6, if_pos (Or.inr (Or.inl (by omega)))]

/-- What the document's Parse answers. -/
def rVE : Option Int → Int × Bool
  | none => (0, false)
  | some c => (c, true)

theorem scan2_cons {pt k : Nat} {z : Int} {d : ByteArray} (hk : k < d.size) : scan2 pt k z (d.data.toList.drop k) = if k = pt then scan2 pt (k + 1) z (d.data.toList.drop (k + 1)) else if d[k].toNat < 48 ∨ 57 < d[k].toNat then none else scan2 pt (k + 1) (10 * z + (d[k].toNat - 48)) (d.data.toList.drop (k + 1)) := by
  rw [List.drop_eq_getElem_cons (by rw [size_len]; exact hk)]
  rfl
theorem scan2_end {pt k : Nat} {z : Int} {d : ByteArray} (hk : d.size ≤ k) : scan2 pt k z (d.data.toList.drop k) = some z := by
  rw [List.drop_eq_nil_of_le (by rw [size_len]; exact hk)]; rfl
theorem rv_short {b : Bool} {d : ByteArray} (h : d.size < 4) : rVE (rparseO b d.data.toList) = (0, false) := by
  unfold rparseO; rw [if_pos (Or.inl (by rw [size_len]; exact h))]; rfl
theorem rv_long {b : Bool} {d : ByteArray} (h : 17 < d.size) : rVE (rparseO b d.data.toList) = (0, false) := by
  unfold rparseO; rw [if_pos (Or.inr (Or.inl (by rw [size_len]; exact h)))]; rfl
theorem rv_point {b : Bool} {d : ByteArray} {p : Nat} (hp : d.size = p + 3) (h : d[p].toNat ≠ 46) : rVE (rparseO b d.data.toList) = (0, false) := by
  unfold rparseO
  rw [if_pos]
  · rfl
  · right; right
    rw [size_len, hp, show p + 3 - 3 = p by omega, get_len d p (by omega)]
    intro e
    exact h (by rw [Option.some.inj e]; rfl)
/-- The end of the document's Parse. -/
def rFin (b : Bool) (d : ByteArray) (n : Int) : Option Int :=
  if (d.data.toList[0]? = some 48 ∧ 4 < d.size) ∨ 1125899906842624 < n ∨ (b = true ∧ n = 0) then none else if b = true then some (-n) else some n
theorem head_eq {d : ByteArray} (h : 0 < d.size) : (d.data.toList[0]? = some 48) = (d[0].toNat = 48) := by
  rw [get_len d 0 h]
  apply propext
  constructor
  · intro e; rw [Option.some.inj e]; rfl
  · intro e; exact congrArg some (UInt8.toNat_inj.1 (by rw [e]; rfl))
theorem rFin_bad {b : Bool} {d : ByteArray} {n : Int} (h : 0 < d.size) (hbad : (d[0].toNat = 48 ∧ 4 < d.size) ∨ 1125899906842624 < n ∨ (b = true ∧ n = 0)) : rFin b d n = none := by
  unfold rFin; simp only [head_eq h]; rw [if_pos hbad]
theorem rFin_ok {b : Bool} {d : ByteArray} {n : Int} (h : 0 < d.size) (hbad : ¬ ((d[0].toNat = 48 ∧ 4 < d.size) ∨ 1125899906842624 < n ∨ (b = true ∧ n = 0))) : rFin b d n = if b = true then some (-n) else some n := by
  unfold rFin; simp only [head_eq h]; rw [if_neg hbad]
theorem rv_scan {b : Bool} {d : ByteArray} {p : Nat} (hp : d.size = p + 3) (h1 : 1 ≤ p) (h17 : d.size ≤ 17) (h2 : d[p].toNat = 46) :
    rparseO b d.data.toList = (scan2 p 0 0 d.data.toList).bind (rFin b d) := by
  unfold rparseO
  rw [if_neg]
  · rw [size_len, show d.size - 3 = p by omega]
    cases scan2 p 0 0 d.data.toList <;> rfl
  · rw [size_len, hp, show p + 3 - 3 = p by omega, get_len d p (by omega)]
    intro h
    rcases h with h | h | h
    · omega
    · omega
    · exact h (congrArg some (UInt8.toNat_inj.1 (by rw [h2]; rfl)))

theorem cons_of {s : ByteArray} (h : 0 < s.size) (h2 : s[0].toNat = 45) : s.data.toList = 45 :: s.data.toList.drop 1 := by
  have e := List.drop_eq_getElem_cons (l := s.data.toList) (i := 0) (by rw [size_len]; exact h)
  rw [List.drop_zero] at e
  have e2 : s.data.toList[0]'(by rw [size_len]; exact h) = 45 := UInt8.toNat_inj.1 h2
  rw [e2] at e
  exact e
theorem no_minus {s : ByteArray} (h : 0 < s.size) (h2 : ¬ s[0].toNat = 45) : hasPrefix s.data.toList [45] = false := by
  have e := List.drop_eq_getElem_cons (l := s.data.toList) (i := 0) (by rw [size_len]; exact h)
  rw [List.drop_zero] at e
  rw [e]
  have hne : (45 : UInt8) ≠ s.data.toList[0]'(by rw [size_len]; exact h) := fun e2 => h2 (by rw [show s[0] = s.data.toList[0]'(by rw [size_len]; exact h) from rfl, ← e2]; rfl)
  show (((45 : UInt8) == _) && _) = false
  rw [beq_eq_false_iff_ne.2 hne]; rfl
theorem pow_16 : ∀ k, k < 17 → (10 : Int) ^ k ≤ 10000000000000000 := by decide
theorem pow_17 : ∀ k, k < 18 → (10 : Int) ^ k ≤ 100000000000000000 := by decide
theorem pow_bd (k : Nat) (h : k ≤ 16) : ∃ B : Int, (10 : Int) ^ k = B ∧ (10 : Int) ^ (k + 1) = 10 * B ∧ B ≤ 10000000000000000 := by
  refine ⟨_, rfl, ?_, ?_⟩
  · rw [Int.pow_succ]; omega
  · exact pow_16 k (by omega)
theorem pow_bd' (k : Nat) (h : k ≤ 17) : ∃ B : Int, (10 : Int) ^ k = B ∧ 0 ≤ B ∧ B ≤ 100000000000000000 := by
  exact ⟨_, rfl, Int.le_of_lt (Int.pow_pos (by decide)), pow_17 k (by omega)⟩

set_option maxHeartbeats 4000000 in
set_option maxRecDepth 100000 in
theorem rparse_any (s : ByteArray) (w : World) (hs : s.size ≤ 4611686018427387904) :
    Calls Tryd.prog 29 #[.string s] w fun e w' => e = .returned (.tuple #[.int .i64 (rVE (rparseO (hasPrefix s.data.toList [45]) (trimPrefix s.data.toList [45]))).1, .bool (rVE (rparseO (hasPrefix s.data.toList [45]) (trimPrefix s.data.toList [45]))).2]) ∧ w = w' := by
  obtain ⟨R, hR⟩ : ∃ R, R = rVE (rparseO (hasPrefix s.data.toList [45]) (trimPrefix s.data.toList [45])) := ⟨_, rfl⟩
  rw [← hR]
  by_cases hm : 0 < s.size ∧ s[0]!.toNat = 45
  · obtain ⟨hm1, hm2⟩ := hm
    rw [getElem!_pos s 0 hm1] at hm2
    obtain ⟨d, hd⟩ : ∃ d, s.extract 1 s.size = d := ⟨_, rfl⟩
    have hl : s.data.toList = 45 :: d.data.toList := by
      rw [← hd, Lib.extract_to_end]
      exact cons_of hm1 hm2
    have hp : hasPrefix s.data.toList [45] = true := by rw [hl]; simp [hasPrefix]
    have ht : trimPrefix s.data.toList [45] = d.data.toList := by unfold trimPrefix; rw [hp, hl]; simp
    have HF : Hid (R = rVE (rparseO true d.data.toList)) := Lib.hid (by rw [hR, hp, ht])
    have hds : d.size ≤ 4611686018427387904 := by
      have := congrArg List.length hl
      rw [List.length_cons, size_len, size_len] at this
      omega
    clear hR hp ht hl
    go_enter Tryd.func29, Tryd.ntmps29
    by_cases h1 : d.size < 4
    · go_wp2
      go_ret2
      obtain rfl : R = (0, false) := HF.out.trans (rv_short h1)
      exact ⟨rfl, rfl⟩
    by_cases h17 : 17 < d.size
    · go_wp2
      go_ret2
      obtain rfl : R = (0, false) := HF.out.trans (rv_long h17)
      exact ⟨rfl, rfl⟩
    obtain ⟨p, hp⟩ : ∃ p, d.size = p + 3 := ⟨d.size - 3, by omega⟩
    have hp1 : 1 ≤ p := by omega
    have hp14 : p ≤ 14 := by omega
    by_cases h2 : ¬ d[p].toNat = 46
    · have h2b : ((d[p].toNat : Int) != 46) = true := by rw [bne_iff_ne]; omega
      go_wp2
      go_ret2
      obtain rfl : R = (0, false) := HF.out.trans (rv_point hp h2)
      exact ⟨rfl, rfl⟩
    replace h2 : d[p].toNat = 46 := Classical.not_not.1 h2
    have HS := Lib.hid (HF.out.trans (congrArg rVE (rv_scan hp hp1 (by omega) h2)))
    clear HF
    have q1 : decide ((p : Int) + 3 < 4) = false := decide_eq_false (by omega)
    have q2 : decide (17 < (p : Int) + 3) = false := decide_eq_false (by omega)
    go_wp2
    go_loop [5, 6] (fun c i => ∃ k : Nat, ∃ z : Int, k ≤ d.size ∧ 0 ≤ z ∧ z < 10 ^ k ∧ i = .int .i64 k ∧ c = .int .i64 z ∧ Hid (scan2 p k z (d.data.toList.drop k) = scan2 p 0 0 d.data.toList)) (fun _ i => d.size - (RowKit.intOf i).toNat)
    case atStart => exact ⟨0, 0, Nat.zero_le _, by omega, by decide, rfl, rfl, Lib.hid rfl⟩
    case round =>
      obtain ⟨k, z, hk, hz0, hz1, rfl, rfl, HZ⟩ := hrel
      by_cases hlt : k < p + 3
      · have hkd : k < d.size := by omega
        obtain ⟨B, hB, hB2, hB3⟩ := pow_bd k (by omega)
        have hzB : z < B := by rw [← hB]; exact hz1
        clear hz1 hB
        by_cases hkp : k = p
        · have hb : ((k : Int) == (p : Int)) = true := beq_iff_eq.2 (by omega)
          have HN : Hid (scan2 p (k + 1) z (d.data.toList.drop (k + 1)) = scan2 p 0 0 d.data.toList) := Lib.hid (by rw [← HZ.out, scan2_cons hkd, if_pos hkp])
          have HB := Lib.hid hB2
          clear hkp hB2
          go_wp2
          go_round
          case rel => exact ⟨k + 1, z, by omega, hz0, by rw [HB.out]; omega, by go_num, rfl, HN⟩
          case measure => simp [RowKit.intOf]; omega
        · have hb : ((k : Int) == (p : Int)) = false := beq_eq_false_iff_ne.2 (by omega)
          by_cases hdig : d[k].toNat < 48 ∨ 57 < d[k].toNat
          · have HN : Hid (R = (0, false)) := Lib.hid (by rw [HS.out, ← HZ.out, scan2_cons hkd, if_neg hkp, if_pos hdig]; rfl)
            clear hB2
            by_cases h48 : d[k].toNat < 48
            · go_wp2
              go_ret2
              obtain rfl : R = (0, false) := HN.out
              exact ⟨rfl, rfl⟩
            · have h57 : 57 < d[k].toNat := by omega
              go_wp2
              go_ret2
              obtain rfl : R = (0, false) := HN.out
              exact ⟨rfl, rfl⟩
          · have h48 : 48 ≤ d[k].toNat := by omega
            have h57 : d[k].toNat ≤ 57 := by omega
            have HN : Hid (scan2 p (k + 1) (10 * z + ((d[k].toNat : Int) - 48)) (d.data.toList.drop (k + 1)) = scan2 p 0 0 d.data.toList) := Lib.hid (by rw [← HZ.out, scan2_cons hkd, if_neg hkp, if_neg hdig])
            have HB := Lib.hid hB2
            clear hdig hB2 hkp
            go_wp2
            go_round
            case rel => exact ⟨k + 1, 10 * z + ((d[k].toNat : Int) - 48), by omega, by omega, by rw [HB.out]; omega, by go_num, rfl, HN⟩
            case measure => simp [RowKit.intOf]; omega
      · have hsc : scan2 p 0 0 d.data.toList = some z := by rw [← HZ.out, scan2_end (by omega)]
        have HN := Lib.hid (HS.out)
        have HC := Lib.hid hsc
        have hz2 : z < 100000000000000000 := by
          have e : k = p + 3 := by omega
          obtain ⟨B, hB, _, hB3⟩ := pow_bd' k (by omega)
          rw [hB] at hz1; omega
        clear hz1 hsc
        by_cases hbad : (d[0].toNat = 48 ∧ 4 < d.size) ∨ 1125899906842624 < z ∨ (true = true ∧ z = 0)
        · have HX : Hid (R = (0, false)) := Lib.hid (by rw [HN.out, HC.out]; exact congrArg rVE (rFin_bad (by omega) hbad))
          by_cases c1 : d[0].toNat = 48
          · by_cases c2 : 4 < d.size
            · go_wp2
              go_ret2
              obtain rfl : R = (0, false) := HX.out
              exact ⟨rfl, rfl⟩
            · by_cases c3 : 1125899906842624 < z
              · go_wp2
                go_ret2
                obtain rfl : R = (0, false) := HX.out
                exact ⟨rfl, rfl⟩
              · have hz : z = 0 := by rcases hbad with h | h | h; exact absurd h.2 (by omega); omega; exact h.2
                have hzb : (z == 0) = true := beq_iff_eq.2 hz
                clear hz hbad
                go_wp2
                go_ret2
                obtain rfl : R = (0, false) := HX.out
                exact ⟨rfl, rfl⟩
          · by_cases c3 : 1125899906842624 < z
            · go_wp2
              go_ret2
              obtain rfl : R = (0, false) := HX.out
              exact ⟨rfl, rfl⟩
            · have hz : z = 0 := by rcases hbad with h | h | h; exact absurd h.1 c1; omega; exact h.2
              have hzb : (z == 0) = true := beq_iff_eq.2 hz
              clear hz hbad
              go_wp2
              go_ret2
              obtain rfl : R = (0, false) := HX.out
              exact ⟨rfl, rfl⟩
        · have HX : Hid (R = (-z, true)) := Lib.hid (by rw [HN.out, HC.out]; exact congrArg rVE (rFin_ok (by omega) hbad))
          have c3 : ¬ 1125899906842624 < z := fun h => hbad (Or.inr (Or.inl h))
          have hzb : (z == 0) = false := beq_eq_false_iff_ne.2 (fun h => hbad (Or.inr (Or.inr ⟨rfl, h⟩)))
          by_cases c1 : d[0].toNat = 48
          · have c2 : ¬ 4 < d.size := fun h => hbad (Or.inl ⟨c1, h⟩)
            clear hbad
            go_wp2
            go_ret2
            obtain rfl := HX.out
            exact ⟨rfl, rfl⟩
          · clear hbad
            go_wp2
            go_ret2
            obtain rfl := HX.out
            exact ⟨rfl, rfl⟩
  · obtain ⟨d, hd⟩ : ∃ d, s = d := ⟨_, rfl⟩
    subst hd
    by_cases hm1 : 0 < s.size
    · have hm2 : ¬ s[0].toNat = 45 := fun e => hm ⟨hm1, by rw [getElem!_pos s 0 hm1]; exact e⟩
      have hp : hasPrefix s.data.toList [45] = false := no_minus hm1 hm2
      have hm2b : ((s[0].toNat : Int) == 45) = false := beq_eq_false_iff_ne.2 (by omega)
      have ht : trimPrefix s.data.toList [45] = s.data.toList := by unfold trimPrefix; rw [hp]; simp
      have HF : Hid (R = rVE (rparseO false s.data.toList)) := Lib.hid (by rw [hR, hp, ht])
      clear hR hp ht hm
      go_enter Tryd.func29, Tryd.ntmps29
      by_cases h1 : s.size < 4
      · go_wp2
        go_ret2
        obtain rfl : R = (0, false) := HF.out.trans (rv_short h1)
        exact ⟨rfl, rfl⟩
      by_cases h17 : 17 < s.size
      · go_wp2
        go_ret2
        obtain rfl : R = (0, false) := HF.out.trans (rv_long h17)
        exact ⟨rfl, rfl⟩
      obtain ⟨p, hp⟩ : ∃ p, s.size = p + 3 := ⟨s.size - 3, by omega⟩
      have hp1 : 1 ≤ p := by omega
      have hp14 : p ≤ 14 := by omega
      by_cases h2 : ¬ s[p].toNat = 46
      · have h2b : ((s[p].toNat : Int) != 46) = true := by rw [bne_iff_ne]; omega
        go_wp2
        go_ret2
        obtain rfl : R = (0, false) := HF.out.trans (rv_point hp h2)
        exact ⟨rfl, rfl⟩
      replace h2 : s[p].toNat = 46 := Classical.not_not.1 h2
      have HS := Lib.hid (HF.out.trans (congrArg rVE (rv_scan hp hp1 (by omega) h2)))
      clear HF
      have q0 : decide ((0 : Int) < (p : Int) + 3) = true := decide_eq_true (by omega)
      have q1 : decide ((p : Int) + 3 < 4) = false := decide_eq_false (by omega)
      have q2 : decide (17 < (p : Int) + 3) = false := decide_eq_false (by omega)
      go_wp2
      go_loop [5, 6] (fun c i => ∃ k : Nat, ∃ z : Int, k ≤ s.size ∧ 0 ≤ z ∧ z < 10 ^ k ∧ i = .int .i64 k ∧ c = .int .i64 z ∧ Hid (scan2 p k z (s.data.toList.drop k) = scan2 p 0 0 s.data.toList)) (fun _ i => s.size - (RowKit.intOf i).toNat)
      case atStart => exact ⟨0, 0, Nat.zero_le _, by omega, by decide, rfl, rfl, Lib.hid rfl⟩
      case round =>
        obtain ⟨k, z, hk, hz0, hz1, rfl, rfl, HZ⟩ := hrel
        by_cases hlt : k < p + 3
        · have hkd : k < s.size := by omega
          obtain ⟨B, hB, hB2, hB3⟩ := pow_bd k (by omega)
          have hzB : z < B := by rw [← hB]; exact hz1
          clear hz1 hB
          by_cases hkp : k = p
          · have hb : ((k : Int) == (p : Int)) = true := beq_iff_eq.2 (by omega)
            have HN : Hid (scan2 p (k + 1) z (s.data.toList.drop (k + 1)) = scan2 p 0 0 s.data.toList) := Lib.hid (by rw [← HZ.out, scan2_cons hkd, if_pos hkp])
            have HB := Lib.hid hB2
            clear hkp hB2
            go_wp2
            go_round
            case rel => exact ⟨k + 1, z, by omega, hz0, by rw [HB.out]; omega, by go_num, rfl, HN⟩
            case measure => simp [RowKit.intOf]; omega
          · have hb : ((k : Int) == (p : Int)) = false := beq_eq_false_iff_ne.2 (by omega)
            by_cases hdig : s[k].toNat < 48 ∨ 57 < s[k].toNat
            · have HN : Hid (R = (0, false)) := Lib.hid (by rw [HS.out, ← HZ.out, scan2_cons hkd, if_neg hkp, if_pos hdig]; rfl)
              clear hB2
              by_cases h48 : s[k].toNat < 48
              · go_wp2
                go_ret2
                obtain rfl : R = (0, false) := HN.out
                exact ⟨rfl, rfl⟩
              · have h57 : 57 < s[k].toNat := by omega
                go_wp2
                go_ret2
                obtain rfl : R = (0, false) := HN.out
                exact ⟨rfl, rfl⟩
            · have h48 : 48 ≤ s[k].toNat := by omega
              have h57 : s[k].toNat ≤ 57 := by omega
              have HN : Hid (scan2 p (k + 1) (10 * z + ((s[k].toNat : Int) - 48)) (s.data.toList.drop (k + 1)) = scan2 p 0 0 s.data.toList) := Lib.hid (by rw [← HZ.out, scan2_cons hkd, if_neg hkp, if_neg hdig])
              have HB := Lib.hid hB2
              clear hdig hB2 hkp
              go_wp2
              go_round
              case rel => exact ⟨k + 1, 10 * z + ((s[k].toNat : Int) - 48), by omega, by omega, by rw [HB.out]; omega, by go_num, rfl, HN⟩
              case measure => simp [RowKit.intOf]; omega
        · have hsc : scan2 p 0 0 s.data.toList = some z := by rw [← HZ.out, scan2_end (by omega)]
          have HN := Lib.hid (HS.out)
          have HC := Lib.hid hsc
          have hz2 : z < 100000000000000000 := by
            have e : k = p + 3 := by omega
            obtain ⟨B, hB, _, hB3⟩ := pow_bd' k (by omega)
            rw [hB] at hz1; omega
          clear hz1 hsc
          by_cases hbad : (s[0].toNat = 48 ∧ 4 < s.size) ∨ 1125899906842624 < z ∨ (false = true ∧ z = 0)
          · have HX : Hid (R = (0, false)) := Lib.hid (by rw [HN.out, HC.out]; exact congrArg rVE (rFin_bad (by omega) hbad))
            by_cases c1 : s[0].toNat = 48
            · by_cases c2 : 4 < s.size
              · go_wp2
                go_ret2
                obtain rfl : R = (0, false) := HX.out
                exact ⟨rfl, rfl⟩
              · by_cases c3 : 1125899906842624 < z
                · go_wp2
                  go_ret2
                  obtain rfl : R = (0, false) := HX.out
                  exact ⟨rfl, rfl⟩
                · exfalso; rcases hbad with h | h | h; exact absurd h.2 c2; omega; exact absurd h.1 (by simp)
            · by_cases c3 : 1125899906842624 < z
              · go_wp2
                go_ret2
                obtain rfl : R = (0, false) := HX.out
                exact ⟨rfl, rfl⟩
              · exfalso; rcases hbad with h | h | h; exact absurd h.1 c1; omega; exact absurd h.1 (by simp)
          · have HX : Hid (R = (z, true)) := Lib.hid (by rw [HN.out, HC.out]; exact congrArg rVE (rFin_ok (by omega) hbad))
            have c3 : ¬ 1125899906842624 < z := fun h => hbad (Or.inr (Or.inl h))
            by_cases c1 : s[0].toNat = 48
            · have c2 : ¬ 4 < s.size := fun h => hbad (Or.inl ⟨c1, h⟩)
              clear hbad
              go_wp2
              go_ret2
              obtain rfl := HX.out
              exact ⟨rfl, rfl⟩
            · clear hbad
              go_wp2
              go_ret2
              obtain rfl := HX.out
              exact ⟨rfl, rfl⟩
    · have hp : hasPrefix s.data.toList [45] = false := by
        have e0 : s.data.toList = [] := List.eq_nil_of_length_eq_zero (by rw [size_len]; omega)
        rw [e0]; rfl
      have ht : trimPrefix s.data.toList [45] = s.data.toList := by unfold trimPrefix; rw [hp]; simp
      have HF : Hid (R = rVE (rparseO false s.data.toList)) := Lib.hid (by rw [hR, hp, ht])
      have h1 : s.size < 4 := by omega
      clear hR hp ht hm
      go_enter Tryd.func29, Tryd.ntmps29
      go_wp2
      go_ret2
      obtain rfl : R = (0, false) := HF.out.trans (rv_short h1)
      exact ⟨rfl, rfl⟩

end Go.Proofs.YthdjpkpkkdnofaaDoor
