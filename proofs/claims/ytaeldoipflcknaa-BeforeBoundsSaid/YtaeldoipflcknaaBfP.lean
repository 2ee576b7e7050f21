/-
  What is proved: plain facts on what is taken of one code: it is what the items of that code say, no more than is wanted of it, and within its limits. Conditions: as each says.
-/
import Derived.Test.YtaeldoipflcknaaBfN
namespace Go.Proofs.Ytaeldoipflcknaa
open Go Go.RowKit Go.Lib Go.Proofs
open Ra (fitsB fitsB_iff)
set_option linter.unusedVariables false

/-- What items say of one code. -/
def codeI : Ti → ByteArray → Int
  | [], _ => 0
  | p :: r, s => (if p.1 = s then p.2 else 0) + codeI r s
theorem codeI_append (L M : Ti) (s : ByteArray) : codeI (L ++ M) s = codeI L s + codeI M s := by
  induction L with
  | nil => show codeI M s = 0 + codeI M s; omega
  | cons p r ih => show _ + codeI (r ++ M) s = _ + codeI r s + codeI M s; rw [ih]; omega
theorem codeI_at (L : Ti) {k : Nat} (h : k < L.length) (s : ByteArray) : codeI (L.take (k + 1)) s = codeI (L.take k) s + if (L.getD k d0).1 = s then (L.getD k d0).2 else 0 := by
  rw [take_at L d0 h, codeI_append]
  show _ = _ + _
  have : codeI [L.getD k d0] s = if (L.getD k d0).1 = s then (L.getD k d0).2 else 0 := by show _ + 0 = _; omega
  rw [this]
/-- .. of what is wanted, as far as that may go. -/
def wantI : Ti → ByteArray → Int
  | [], _ => 0
  | p :: r, s => (if p.1 = s then min p.2 2251799813685248 else 0) + wantI r s
theorem wantI_at (L : Ti) {k : Nat} (h : k < L.length) (s : ByteArray) : wantI (L.take (k + 1)) s = wantI (L.take k) s + if (L.getD k d0).1 = s then min (L.getD k d0).2 2251799813685248 else 0 := by
  have app : ∀ A B : Ti, wantI (A ++ B) s = wantI A s + wantI B s := by
    intro A B
    induction A with
    | nil => show wantI B s = 0 + wantI B s; omega
    | cons p r ih => show _ + wantI (r ++ B) s = _ + wantI r s + wantI B s; rw [ih]; omega
  rw [take_at L d0 h, app]
  have : wantI [L.getD k d0] s = if (L.getD k d0).1 = s then min (L.getD k d0).2 2251799813685248 else 0 := by show _ + 0 = _; omega
  rw [this]
/-- What holds of one code while items are taken. -/
def CdOk (was : Ti) (L : List Lm) (W : Ti) (st : St) (s : ByteArray) : Prop :=
  codeI st.2.2.2 s = atI st.2.2.1 s ∧ 0 ≤ atI st.2.2.1 s ∧ atI st.2.2.1 s ≤ wantI W s ∧ (∀ l ∈ L, l.1 = s → l.2.2 ≠ 0 → 0 < atI st.2.2.1 s → atI was s + atI st.2.2.1 s ≤ l.2.2)
theorem cd_fold {g : Int} {was : Ti} {L : List Lm} {W : Ti} (hL : (chkF L).1 = 0) (h : (takeF g was L W).1 = 0) (s : ByteArray) : ∀ k, k ≤ W.length → CdOk was L (W.take k) (takeF g was L (W.take k)) s := by
  intro k
  induction k with
  | zero =>
    intro _
    refine ⟨rfl, Int.le_refl _, Int.le_refl _, fun l _ _ _ h => ?_⟩
    exact absurd h (Int.lt_irrefl 0)
  | succ k ih =>
    intro hk
    have hk' : k < W.length := hk
    obtain ⟨a1, a2, a3, a4⟩ := ih (by omega)
    have hpre := take_pre h (show k ≤ W.length by omega)
    obtain ⟨n1, n2, n3, n4⟩ := take_ok h hk'
    obtain ⟨f0, f1⟩ := fit0_iff.1 n2
    rw [take_next hk' hpre]
    unfold CdOk
    rw [wantI_at W hk']
    generalize W.getD k d0 = it at *
    generalize takeF g was L (W.take k) = st at *
    obtain ⟨c0, c1⟩ := takeC_bd (g := g) (was := was) (L := L) (left := st.2.1) (here := st.2.2.1) (it := it)
    have hcap : ∀ l ∈ L, l.1 = it.1 → l.2.2 ≠ 0 → takeC g was L st.2.1 st.2.2.1 it ≤ max 0 (l.2.2 - atI was it.1 - atI st.2.2.1 it.1) := by
      intro l hl e hy
      obtain ⟨l', hl', e1, e2, -, e4, e5⟩ := cap_one hL (s := it.1) (List.any_eq_true.2 ⟨l, hl, by simpa using e⟩)
      obtain rfl := e5 l hl e
      unfold takeC
      rw [e4]
      unfold capF
      rw [if_pos hy]
      omega
    unfold takeS
    rw [if_neg (by simpa using hpre), if_neg (by simp [n1]), if_neg (by simp [n2, n3]), if_neg n4]
    dsimp only
    generalize takeC g was L st.2.1 st.2.2.1 it = C at *
    rw [atI_set]
    have hcode : codeI (if C = 0 then st.2.2.2 else st.2.2.2 ++ [(it.1, C)]) s = codeI st.2.2.2 s + if it.1 = s then C else 0 := by
      split
      · rename_i h0; rw [h0]; split <;> omega
      · rw [codeI_append]
        have : codeI [(it.1, C)] s = if it.1 = s then C else 0 := by show (if it.1 = s then C else 0) + 0 = _; omega
        rw [this]
    rw [hcode]
    by_cases e : it.1 = s
    · subst e
      rw [if_pos rfl, if_pos rfl, if_pos rfl]
      refine ⟨by omega, by omega, by omega, fun l hl e hy hp => ?_⟩
      have h1 := hcap l hl e hy
      by_cases hC : 0 < C
      · omega
      · have h2 := a4 l hl e hy (by omega)
        omega
    · rw [if_neg e, if_neg e, if_neg (fun h => e h.symm)]
      exact ⟨by omega, a2, by omega, a4⟩
/-- A limit of nothing. -/
theorem most_none {g : Int} {was : Ti} {L : List Lm} {W : Ti} (hg : fitsB g = true) (hL : (chkF L).1 = 0) (h : (takeF g was L W).1 = 0) {l : Lm} (hl : l ∈ L) (hm : l.2.1 = 0) : atI (takeF g was L W).2.2.1 l.1 ≤ 0 := by
  have hi := inv_at (g := g) (was := was) (W := W) hg hL W.length (Nat.le_refl _) (by rw [List.take_length]; exact h)
  rw [List.take_length] at hi
  have := (hi.2 l.1).2.2.1 l hl rfl (by omega)
  rw [hm] at this
  have e : partP (max 0 g) 0 = 0 := by unfold partP; rw [Int.mul_zero]; decide
  omega

end Go.Proofs.Ytaeldoipflcknaa
