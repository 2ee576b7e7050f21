/-
  What is proved: the contracts of sets once more, in the form in which the statements' walks use them. Conditions: as there.
-/
import Derived.Test.YtamglmenljgbdaaSqN
namespace Go.Proofs.Ytamglmenljgbdaa.Sp
open Go Go.RowKit Go.Proofs

theorem IsSet.none (w : World) : IsSet w 0 (fun _ => false) (.agg #[.slice none 0 0]) := ⟨[], Option.none, 0, rfl, Canon.nil, fun d => ⟨fun h => absurd h (Mem_nil _), fun h => by cases h⟩, (fun s hs => by cases hs), Nat.le_refl _, (fun a ha => by cases ha), .inl rfl⟩
theorem UnionK {v1 v2 : Value} {N M : Nat} {P Q : Int → Bool} {w : World} (h1 : IsSet w N P v1) (h2 : IsSet w M Q v2) (hN : N ≤ 10000) (hM : M ≤ 10000) :
    Calls Try.prog 27 #[v1, v2] w (SetPost (2 * N + 2 * M) (fun d => P d || Q d) w) := Union_any v1 v2 N M P Q w hN hM h1 h2
theorem MeetK {v1 v2 : Value} {N M : Nat} {P Q : Int → Bool} {w : World} (h1 : IsSet w N P v1) (h2 : IsSet w M Q v2) (hN : N ≤ 10000) (hM : M ≤ 10000) :
    Calls Try.prog 46 #[v1, v2] w (SetPost (2 * N + 2 * M) (fun d => P d && Q d) w) := Meet_any v1 v2 N M P Q w hN hM h1 h2
theorem MinusK {v1 v2 : Value} {N M : Nat} {P Q : Int → Bool} {w : World} (h1 : IsSet w N P v1) (h2 : IsSet w M Q v2) (hN : N ≤ 10000) (hM : M ≤ 10000) :
    Calls Try.prog 45 #[v1, v2] w (SetPost (2 * N + 2 * M) (fun d => P d && !Q d) w) := Minus_any v1 v2 N M P Q w hN hM h1 h2
theorem hasB_take {L : List Sp} {d : Int} {k : Nat} (h : k < L.length) : hasB (L.take (k + 1)) d = (hasB (L.take k) d || inB (L.getD k (0, 0)) d) := by
  rw [Bool.eq_iff_iff, Bool.or_eq_true, hasB_iff, hasB_iff, List.take_add_one, Mem_app, getD_at L _ h]
  simp [h, Mem_one, inB]
theorem canon_eq {K K' : List Sp} {P P' : Int → Bool} (k : Canon K) (k' : Canon K') (m : ∀ d, Mem K d ↔ P d = true) (m' : ∀ d, Mem K' d ↔ P' d = true) (h : ∀ d, P d = P' d) : K = K' :=
  canon_one k k' (fun d => by rw [m, m', h])
theorem canon_at {K : List Sp} (h : Canon K) : ∀ k, k < K.length → (K.getD k (0, 0)).1 < (K.getD k (0, 0)).2 ∧ (0 < k → (K.getD (k - 1) (0, 0)).2 < (K.getD k (0, 0)).1) := fun k hk => by
  rw [getD_at K _ hk]
  refine ⟨h.2 _ (List.getElem_mem _), fun h0 => ?_⟩
  rw [getD_at K _ (show k - 1 < K.length by omega)]
  exact List.pairwise_iff_getElem.1 h.1 (k - 1) k (by omega) hk (by omega)
theorem hasB_app (K L : List Sp) (d : Int) : hasB (K ++ L) d = (hasB K d || hasB L d) := by
  rw [Bool.eq_iff_iff, Bool.or_eq_true, hasB_iff, hasB_iff, hasB_iff, Mem_app]
theorem SetPost.congr {N : Nat} {P Q : Int → Bool} {w : World} {e : Ending} {w' : World} (h : SetPost N P w e w') (hPQ : ∀ d, P d = Q d) : SetPost N Q w e w' := by
  obtain ⟨v, h1, h2, h3, h4⟩ := h
  exact ⟨v, h1, h2.congr hPQ (Nat.le_refl _), h3, h4⟩
theorem src_of {w : World} {q : Option Addr} {c : Nat} {M : List Sp} (h : SpansIn w q M) (h0 : q = none → c = 0) : q = none ∧ M.length = 0 ∧ c = 0 ∨ ∃ a, q = some a ∧ ∀ j u, (spC M)[j]? = some u → w.cell? (a.add j) = some u := by
  cases q with
  | none =>
    rcases h with rfl | ⟨b, o, h, _⟩
    · exact .inl ⟨rfl, rfl, h0 rfl⟩
    · cases h
  | some a =>
    refine .inr ⟨a, rfl, fun j u hu => ?_⟩
    have hj : j < M.length * 2 := by rw [← spC_len]; exact (List.getElem?_eq_some_iff.1 hu).1
    rcases h with rfl | ⟨b, o, hp, hc⟩
    · simp at hj
    · injection hp with hp
      subst hp
      obtain ⟨a1, a2⟩ := spC_at M (j / 2) (by omega)
      obtain ⟨c1, c2⟩ := hc (j / 2) (by omega)
      rw [Addr.add_lit]
      rcases (show j = j / 2 * 2 ∨ j = j / 2 * 2 + 1 by omega) with e | e
      · rw [e] at hu ⊢; rw [a1] at hu; rw [c1]; exact hu
      · rw [e] at hu ⊢; rw [a2] at hu; rw [← Nat.add_assoc, c2]; exact hu

end Go.Proofs.Ytamglmenljgbdaa.Sp
