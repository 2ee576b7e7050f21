/-
  What is proved: a set of days has not more spans than any list of spans of the same days; whether a set has a day, by its count; and the contracts of prorate.hasAny at the two methods that it is handed. Conditions: as in the contracts of span.
-/
import Derived.Test.YtamglmenljgbdaaPrB
import Derived.Test.YtamglmenljgbdaaSqO
namespace Go.Proofs.Ytamglmenljgbdaa
open Go Go.RowKit Go.Proofs
open Sp (IsSet Mem Canon hasB SetPost)

theorem pw_or {K : List Sp.Sp} (h : K.Pairwise (fun s t => s.2 < t.1)) : ∀ u ∈ K, ∀ s ∈ K, u = s ∨ u.2 < s.1 ∨ s.2 < u.1 := by
  induction K with
  | nil => intro u hu; cases hu
  | cons a r ih =>
    obtain ⟨h1, h2⟩ := List.pairwise_cons.1 h
    intro u hu s hs
    rcases List.mem_cons.1 hu with hu' | hu' <;> rcases List.mem_cons.1 hs with hs' | hs'
    · exact .inl (hu'.trans hs'.symm)
    · rw [hu']; exact .inr (.inl (h1 s hs'))
    · rw [hs']; exact .inr (.inr (h1 u hu'))
    · exact ih h2 u hu' s hs'
theorem starts {K L : List Sp.Sp} (hK : Canon K) (h : ∀ d, Mem K d ↔ Mem L d) : ∀ x ∈ K.map (·.1), x ∈ L.map (·.1) := by
  intro x hx
  obtain ⟨s, hs, rfl⟩ := List.mem_map.1 hx
  have s2 := hK.2 s hs
  obtain ⟨t, ht, t1, t2⟩ := (h s.1).1 ⟨s, hs, by omega, s2⟩
  refine List.mem_map.2 ⟨t, ht, ?_⟩
  by_cases he : t.1 = s.1
  · exact he
  obtain ⟨u, hu, u1, u2⟩ := (h (s.1 - 1)).2 ⟨t, ht, by omega, by omega⟩
  rcases pw_or hK.1 u hu s hs with rfl | h1 | h1 <;> omega
theorem sub_len : ∀ (A B : List Int), A.Nodup → (∀ x ∈ A, x ∈ B) → A.length ≤ B.length
  | [], _, _, _ => Nat.zero_le _
  | a :: r, B, hn, h => by
    obtain ⟨h1, h2⟩ := List.nodup_cons.1 hn
    have h3 := sub_len r (B.erase a) h2 (fun x hx => (List.mem_erase_of_ne (fun e => h1 (by rw [← e]; exact hx))).2 (h x (by simp [hx])))
    rw [List.length_erase_of_mem (h a (by simp))] at h3
    have h4 : 0 < B.length := List.length_pos_of_mem (h a (by simp))
    simp only [List.length_cons]
    omega
theorem canon_nodup : ∀ {K : List Sp.Sp}, Canon K → (K.map (·.1)).Nodup
  | [], _ => List.nodup_nil
  | s :: r, h => by
    obtain ⟨h1, h2⟩ := List.pairwise_cons.1 h.1
    refine List.nodup_cons.2 ⟨fun hm => ?_, canon_nodup ⟨h2, fun t ht => h.2 t (by simp [ht])⟩⟩
    obtain ⟨t, ht, e⟩ := List.mem_map.1 hm
    have a1 := h1 t ht
    have a2 := h.2 s (by simp)
    dsimp only at e
    omega
theorem canon_len {K L : List Sp.Sp} (hK : Canon K) (h : ∀ d, Mem K d ↔ Mem L d) : K.length ≤ L.length := by
  simpa using sub_len _ _ (canon_nodup hK) (starts hK h)
theorem IsSet_tight {w : World} {N M : Nat} {P : Int → Bool} {v : Value} {L : List Sp.Sp} (h : IsSet w N P v) (hP : ∀ d, P d = hasB L d) (hM : L.length ≤ M) : IsSet w M P v := by
  obtain ⟨K, p, c, rfl, k1, m1, a64, -, hs, s1⟩ := h
  have hl := canon_len (L := L) k1 (fun d => by rw [m1 d, hP d]; exact Sp.hasB_iff)
  exact ⟨K, p, c, rfl, k1, m1, a64, by omega, hs, s1⟩

theorem DaysE {v : Value} {N : Nat} {P : Int → Bool} {w : World} (h : IsSet w N P v) (hN : N ≤ 100000) :
    Calls Try.prog 43 #[v] w fun e w' => ∃ r : Int, e = .returned (.int .i64 r) ∧ 0 ≤ r ∧ r ≤ 4611686018427387904 ∧ (r = 0 ↔ ∀ d, P d = false) ∧ Below w.heap.size w w' := by
  refine (Sp.Days_any v N P w hN h).mono ?_
  rintro e w' ⟨⟨K, k1, m1, -, rfl⟩, hb⟩
  have hnn := Sp.dsum_nn K
  obtain ⟨b1, b2⟩ := Sp.cut62_bd hnn
  refine ⟨_, rfl, b1, b2, ⟨fun h0 d => ?_, fun h0 => ?_⟩, hb⟩
  · cases hd : P d with
    | false => rfl
    | true =>
      exfalso
      obtain ⟨s, hs, hs1, hs2⟩ := (m1 d).2 hd
      cases K with
      | nil => cases hs
      | cons a r =>
        have ha := k1.2 a (by simp)
        have hr := Sp.dsum_nn r
        have e1 : Sp.dsum (a :: r) = Sp.lenS a + Sp.dsum r := rfl
        have e2 : Sp.lenS a = a.2 - a.1 := by unfold Sp.lenS; split <;> omega
        unfold Sp.cut62 at h0
        split at h0 <;> omega
  · have : K = [] := by
      cases K with
      | nil => rfl
      | cons a r =>
        have ha := k1.2 a (by simp)
        have := (m1 a.1).1 ⟨a, by simp, by omega, ha⟩
        rw [h0] at this; cases this
    subst this
    rfl

set_option maxHeartbeats 1000000 in
set_option maxRecDepth 100000 in
theorem hasMinus {v1 v2 : Value} {N M : Nat} {P Q : Int → Bool} {w : World} (b : Bool) (h1 : IsSet w N P v1) (h2 : IsSet w M Q v2) (hN : N ≤ 10000) (hM : M ≤ 10000) (hb : b = true ↔ ∃ d, (P d && !Q d) = true) :
    Calls Try.prog 44 #[.func (.func 45) #[v1] #[], v2] w fun e w' => e = .returned (.bool b) ∧ Below w.heap.size w w' := by
  have H2 := Lib.hid h2
  obtain ⟨K, p, c, rfl, -⟩ := h2
  obtain ⟨K', p', c', e', -⟩ := id h1
  have hb0 := (Below.refl w.heap.size w).alloc (Nat.le_refl _) (.cells #[.slice p K.length c] 58)
  have HM := Lib.hid (Sp.MinusK (h1.below hb0 (Nat.le_refl _)) (H2.out.below hb0 (Nat.le_refl _)) hN hM)
  have HB := Lib.hid hb
  subst e'
  clear h1 hb
  go_enter Try.func44, Try.ntmps44
  go_wp2_with fail
  refine (HM.out).mono ?_
  rintro e w1 ⟨v, rfl, hset, hb1, -⟩
  have hbw := hb0.trans (hb1.mono hb0.size)
  have HD := Lib.hid (DaysE hset (by omega))
  clear HM hset hb1 hb0
  go_wp2_with fail
  refine (HD.out).mono ?_
  rintro e w2 ⟨r, rfl, r0, r1, hr, hb2⟩
  have hbb : decide (0 < r) = b := by
    cases b with
    | true =>
      obtain ⟨d, hd⟩ := HB.out.1 rfl
      simp only [decide_eq_true_eq]
      have : r ≠ 0 := fun h0 => by rw [hr.1 h0 d] at hd; cases hd
      omega
    | false =>
      have : r = 0 := hr.2 (fun d => by
        cases hd : (P d && !Q d) with
        | false => rfl
        | true => have := HB.out.2 ⟨d, hd⟩; cases this)
      simp only [decide_eq_false_iff_not]
      omega
  have hbz := hbw.trans (hb2.mono hbw.size)
  subst hbb
  clear HB hr HD
  go_wp2
  go_ret
  exact ⟨rfl, hbz⟩

set_option maxHeartbeats 1000000 in
set_option maxRecDepth 100000 in
theorem hasMeet {v1 v2 : Value} {N M : Nat} {P Q : Int → Bool} {w : World} (b : Bool) (h1 : IsSet w N P v1) (h2 : IsSet w M Q v2) (hN : N ≤ 10000) (hM : M ≤ 10000) (hb : b = true ↔ ∃ d, (P d && Q d) = true) :
    Calls Try.prog 44 #[.func (.func 46) #[v1] #[], v2] w fun e w' => e = .returned (.bool b) ∧ Below w.heap.size w w' := by
  have H2 := Lib.hid h2
  obtain ⟨K, p, c, rfl, -⟩ := h2
  obtain ⟨K', p', c', e', -⟩ := id h1
  have hb0 := (Below.refl w.heap.size w).alloc (Nat.le_refl _) (.cells #[.slice p K.length c] 58)
  have HM := Lib.hid (Sp.MeetK (h1.below hb0 (Nat.le_refl _)) (H2.out.below hb0 (Nat.le_refl _)) hN hM)
  have HB := Lib.hid hb
  subst e'
  clear h1 hb
  go_enter Try.func44, Try.ntmps44
  go_wp2_with fail
  refine (HM.out).mono ?_
  rintro e w1 ⟨v, rfl, hset, hb1, -⟩
  have hbw := hb0.trans (hb1.mono hb0.size)
  have HD := Lib.hid (DaysE hset (by omega))
  clear HM hset hb1 hb0
  go_wp2_with fail
  refine (HD.out).mono ?_
  rintro e w2 ⟨r, rfl, r0, r1, hr, hb2⟩
  have hbb : decide (0 < r) = b := by
    cases b with
    | true =>
      obtain ⟨d, hd⟩ := HB.out.1 rfl
      simp only [decide_eq_true_eq]
      have : r ≠ 0 := fun h0 => by rw [hr.1 h0 d] at hd; cases hd
      omega
    | false =>
      have : r = 0 := hr.2 (fun d => by
        cases hd : (P d && Q d) with
        | false => rfl
        | true => have := HB.out.2 ⟨d, hd⟩; cases this)
      simp only [decide_eq_false_iff_not]
      omega
  have hbz := hbw.trans (hb2.mono hbw.size)
  subst hbb
  clear HB hr HD
  go_wp2
  go_ret
  exact ⟨rfl, hbz⟩

end Go.Proofs.Ytamglmenljgbdaa
