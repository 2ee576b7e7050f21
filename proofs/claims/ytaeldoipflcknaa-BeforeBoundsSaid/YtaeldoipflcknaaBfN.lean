/-
  What is proved: plain facts on what is taken: it is above 0 item by item, adds up to what is gone of the gross, is no more than is wanted, passes no year; without limits it is all that is wanted. Conditions: as each says.
-/
import Derived.Test.YtaeldoipflcknaaBeforeAfterWalk
namespace Go.Proofs.Ytaeldoipflcknaa
open Go Go.RowKit Go.Lib Go.Proofs
open Ra (fitsB fitsB_iff)
set_option linter.unusedVariables false

theorem fit_in {c : Int} (h0 : -1125899906842624 ≤ c) (h1 : c ≤ 1125899906842624) : Ce.fitsB c = true := Ce.fitsB_yes h0 h1
/-- A sum of amounts that are not below 0 and come to no more than the most is right. -/
theorem bsum_ok : ∀ (L : Ti) (a : Int), 0 ≤ a → (∀ p ∈ L, 0 ≤ p.2) → a + sumI L ≤ 1125899906842624 → Ce.sumVE a (amt L) = (a + sumI L, 0)
  | [], a, _, _, _ => by show (a, 0) = (a + 0, 0); rw [Int.add_zero]
  | p :: r, a, h0, h, h1 => by
    have hp := h p (List.mem_cons_self ..)
    have hr := (sum_pos r (fun q hq => h q (List.mem_cons_of_mem _ hq)) 0)
    have hr0 : 0 ≤ sumI r := by
      have := (sum_pos r (fun q hq => h q (List.mem_cons_of_mem _ hq)) r.length).1
      rwa [List.take_length] at this
    have e1 : a + sumI (p :: r) = a + p.2 + sumI r := by show a + (p.2 + sumI r) = _; omega
    rw [e1] at h1 ⊢
    have f1 : Ce.fitsB a = true := fit_in (by omega) (by omega)
    have f2 : Ce.fitsB p.2 = true := fit_in (by omega) (by omega)
    have f3 : Ce.fitsB (a + p.2) = true := fit_in (by omega) (by omega)
    have g1 : Ce.addE a p.2 = 0 := by unfold Ce.addE Ce.inE; rw [if_pos ⟨f1, f2⟩, if_pos f3]
    have g2 : Ce.addV a p.2 = a + p.2 := by unfold Ce.addV Ce.inV; rw [if_pos ⟨f1, f2⟩, if_pos f3]
    show Ce.sumVE a (p.2 :: amt r) = _
    rw [Ce.sumVE, if_pos g1, g2]
    exact bsum_ok r (a + p.2) (by omega) (fun q hq => h q (List.mem_cons_of_mem _ hq)) h1

def OutOk (g : Int) (st : St) : Prop := st.2.1 + sumI st.2.2.2 = g ∧ (∀ p ∈ st.2.2.2, 0 < p.2) ∧ min 0 g ≤ st.2.1
theorem out_step {g : Int} {was : Ti} {L : List Lm} {st : St} {it : ByteArray × Int} (h : OutOk g st) : OutOk g (takeS g was L st it) := by
  unfold takeS
  split
  · exact h
  · split
    · exact h
    · split
      · exact h
      · split
        · exact h
        · obtain ⟨h1, h2, h3⟩ := h
          obtain ⟨c0, c1⟩ := takeC_bd (g := g) (was := was) (L := L) (left := st.2.1) (here := st.2.2.1) (it := it)
          generalize takeC g was L st.2.1 st.2.2.1 it = C at *
          refine ⟨?_, ?_, by dsimp only; omega⟩
          · dsimp only
            split
            · omega
            · rw [sumI_append]
              have : sumI [(it.1, C)] = C := by show C + 0 = C; omega
              rw [this]; omega
          · dsimp only
            split
            · exact h2
            · intro p hp
              rcases List.mem_append.1 hp with hp | hp
              · exact h2 p hp
              · rw [List.mem_singleton] at hp; subst hp; dsimp only; omega
theorem out_fold {g : Int} {was : Ti} {L : List Lm} : ∀ (W : Ti) (st : St), OutOk g st → OutOk g (W.foldl (takeS g was L) st)
  | [], st, h => h
  | it :: r, st, h => by rw [List.foldl_cons]; exact out_fold r _ (out_step h)
theorem out_ok (g : Int) (was : Ti) (L : List Lm) (W : Ti) : OutOk g (takeF g was L W) := out_fold W (0, g, [], []) (by
  unfold OutOk
  dsimp only
  refine ⟨by show g + 0 = g; omega, fun p hp => ?_, by omega⟩
  cases hp)
/-- What the items come to together. -/
theorem out_sum (g : Int) (was : Ti) (L : List Lm) (W : Ti) (hg : g ≤ 1125899906842624) : Ce.sumVE 0 (amt (takeF g was L W).2.2.2) = (sumI (takeF g was L W).2.2.2, 0) ∧ 0 ≤ sumI (takeF g was L W).2.2.2 ∧ sumI (takeF g was L W).2.2.2 ≤ max 0 g := by
  obtain ⟨h1, h2, h3⟩ := out_ok g was L W
  have hb := bsum_ok (takeF g was L W).2.2.2 0 (by omega) (fun p hp => by have := h2 p hp; omega) (by omega)
  rw [Int.zero_add] at hb
  have h0 : 0 ≤ sumI (takeF g was L W).2.2.2 := by
    have := (sum_pos (takeF g was L W).2.2.2 (fun p hp => by have := h2 p hp; omega) (takeF g was L W).2.2.2.length).1
    rwa [List.take_length] at this
  exact ⟨hb, h0, by omega⟩
theorem takeE_ok {g : Int} {was W : Ti} {L : List Lm} (h : takeE g was W L = 0) : fitsB g = true ∧ (chkF L).1 = 0 ∧ W.length ≤ 64 ∧ (takeF g was L W).1 = 0 := by
  unfold takeE at h
  split at h
  · omega
  · rename_i c1
    split at h
    · rename_i c; exact absurd h c
    · rename_i c2
      split at h
      · omega
      · rename_i c3
        have h2 : chkV L = 0 := by simpa using c2
        refine ⟨by simpa using c1, ?_, by omega, h⟩
        unfold chkV at h2
        split at h2
        · omega
        · exact h2

/-! ### without limits -/
def posI : Ti → Int
  | [] => 0
  | p :: r => max 0 p.2 + posI r
theorem posI_at (L : Ti) {k : Nat} (h : k < L.length) : posI (L.take (k + 1)) = posI (L.take k) + max 0 (L.getD k d0).2 := by
  have app : ∀ A B : Ti, posI (A ++ B) = posI A + posI B := by
    intro A B
    induction A with
    | nil => show posI B = 0 + posI B; omega
    | cons p r ih => show max 0 p.2 + posI (r ++ B) = max 0 p.2 + posI r + posI B; rw [ih]; omega
  rw [take_at L d0 h, app]
  show _ + (max 0 (L.getD k d0).2 + 0) = _
  omega
theorem all_taken {g : Int} {was W : Ti} (h : (takeF g was [] W).1 = 0) : ∀ k, k ≤ W.length → sumI (takeF g was [] (W.take k)).2.2.2 = min (max 0 g) (posI (W.take k)) ∧ 0 ≤ posI (W.take k) := by
  intro k
  induction k with
  | zero => intro _; exact ⟨by show 0 = min (max 0 g) 0; omega, Int.le_refl _⟩
  | succ k ih =>
    intro hk
    have hk' : k < W.length := hk
    obtain ⟨ih1, ih2⟩ := ih (by omega)
    have hpre := take_pre h (show k ≤ W.length by omega)
    obtain ⟨n1, n2, n3, n4⟩ := take_ok h hk'
    obtain ⟨o1, o2, o3⟩ := out_ok g was [] (W.take k)
    rw [take_next hk' hpre, posI_at W hk']
    obtain ⟨f0, f1⟩ := fit0_iff.1 n2
    generalize W.getD k d0 = it at *
    generalize takeF g was [] (W.take k) = st at *
    have hc : takeC g was [] st.2.1 st.2.2.1 it = max 0 (min it.2 st.2.1) := rfl
    unfold takeS
    rw [if_neg (by simpa using hpre), if_neg (by simp [n1]), if_neg (by simp [n2, n3]), if_neg n4, hc]
    dsimp only
    refine ⟨?_, by omega⟩
    split
    · omega
    · rw [sumI_append]
      have : sumI [(it.1, max 0 (min it.2 st.2.1))] = max 0 (min it.2 st.2.1) := by show max 0 (min it.2 st.2.1) + 0 = _; omega
      rw [this]
      omega

/-! ### one item, one limit -/
def exX : ByteArray := ⟨#[120]⟩
theorem one_take (g wanted : Int) (was : Ti) (L : List Lm) (hg : fitsB g = true) (hw : fit0 wanted = true) (hs : fit0 (atI was exX) = true) (hL : chkV L = 0) (ho : atI was exX + takeC g was L g [] (exX, wanted) ≤ 1125899906842624) :
    takeE g was [(exX, wanted)] L = 0 ∧ takeF g was L [(exX, wanted)] = (0, g - takeC g was L g [] (exX, wanted), [(exX, takeC g was L g [] (exX, wanted))], if takeC g was L g [] (exX, wanted) = 0 then [] else [(exX, takeC g was L g [] (exX, wanted))]) := by
  have hE : itE was (exX, wanted) = 0 := by
    unfold itE
    rw [if_neg (by simp only; rw [show nameB exX = true by kernel_rfl]; simp), if_neg (by simp only; rw [hw, hs]; simp)]
  have hF : takeF g was L [(exX, wanted)] = (0, g - takeC g was L g [] (exX, wanted), [(exX, takeC g was L g [] (exX, wanted))], if takeC g was L g [] (exX, wanted) = 0 then [] else [(exX, takeC g was L g [] (exX, wanted))]) := by
    show takeS g was L (0, g, [], []) (exX, wanted) = _
    rw [takeS_ok hE, if_neg (by show ¬ 1125899906842624 - 0 - takeC g was L g [] (exX, wanted) < atI was exX; omega)]
    have h1 : setI [] exX (atI [] exX + takeC g was L g [] (exX, wanted)) = [(exX, takeC g was L g [] (exX, wanted))] := by
      show [] ++ [(exX, 0 + takeC g was L g [] (exX, wanted))] = _
      rw [Int.zero_add]; rfl
    dsimp only
    rw [h1]
    rfl
  refine ⟨?_, hF⟩
  unfold takeE
  rw [if_neg (by simp [hg]), if_neg (by simpa using hL), if_neg (by show ¬ 64 < 1; omega), hF]
theorem one_bad (g wanted : Int) (was : Ti) (L : List Lm) (hL : chkV L = 0) (h : fitsB g = false ∨ fit0 wanted = false) : takeE g was [(exX, wanted)] L = 2 := by
  unfold takeE
  cases hg : fitsB g
  · rw [if_pos rfl]
  · rcases h with h | h
    · rw [hg] at h; cases h
    · rw [if_neg (by simp), if_neg (by simpa using hL), if_neg (by show ¬ 64 < 1; omega)]
      show (takeS g was L (0, g, [], []) (exX, wanted)).1 = 2
      have hE : itE was (exX, wanted) = 2 := by
        unfold itE
        rw [if_neg (by simp only; rw [show nameB exX = true by kernel_rfl]; simp), if_pos (by simp only; rw [h]; rfl)]
      rw [takeS_it (by rw [hE]; omega), hE]
theorem chk_one (m y : Int) (hm : partB m = true) (hy : fit0 y = true) : chkV [(exX, m, y)] = 0 := by
  unfold chkV
  rw [if_neg (by show ¬ 64 < 1; omega)]
  show (chkS (0, []) (exX, m, y)).1 = 0
  unfold chkS
  rw [if_neg (by simp), if_neg (by simp only; rw [show nameB exX = true by kernel_rfl]; simp), if_neg (by simp [hasL]), if_neg (by unfold okLm; simp [hm, hy])]
theorem cap_lone (g wanted so m y : Int) (was : Ti) (hs : atI was exX = so) : takeC g was [(exX, m, y)] g [] (exX, wanted) = capF g so 0 (exX, m, y) (max 0 (min wanted g)) := by
  show capS g (atI was exX) 0 exX (max 0 (min wanted g)) (exX, m, y) = _
  unfold capS
  rw [if_pos rfl, hs]
theorem partP_mono {g a b : Int} (hg : 0 ≤ g) (h : a ≤ b) : partP g a ≤ partP g b := Ra.rnd_rises 1 1000000 (g * a) (g * b) (Int.mul_le_mul_of_nonneg_left h hg)

end Go.Proofs.Ytaeldoipflcknaa
