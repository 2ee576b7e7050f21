/-
  What is proved: the contracts of sets once more, in the form in which the statements' walks use them. Conditions: as there.
-/
import Derived.Test.YtefcadngdcgpiaaSpN
namespace Go.Proofs.Ytefcadngdcgpiaa
open Go Go.RowKit Go.Proofs

theorem IsSet.none (w : World) : IsSet w 0 (fun _ => false) (.agg #[.slice none 0 0]) := ⟨[], Option.none, 0, rfl, Canon.nil, fun d => ⟨fun h => absurd h (Mem_nil _), fun h => by cases h⟩, (fun s hs => by cases hs), Nat.le_refl _, (fun a ha => by cases ha), .inl rfl⟩
theorem HasK {v : Value} {N : Nat} {P : Int → Bool} {d : Int} {w : World} (r : Bool) (h : IsSet w N P v) (hN : N ≤ 100000) (hr : P d = r) :
    Calls Try.prog 20 #[v, .int .i64 d] w fun e w' => e = .returned (.bool r) ∧ Below w.heap.size w w' := by
  subst hr; exact Has_any v N P d w hN h
theorem UnionK {v1 v2 : Value} {N M : Nat} {P Q : Int → Bool} {w : World} (h1 : IsSet w N P v1) (h2 : IsSet w M Q v2) (hN : N ≤ 10000) (hM : M ≤ 10000) :
    Calls Try.prog 16 #[v1, v2] w (SetPost (2 * N + 2 * M) (fun d => P d || Q d) w) := Union_any v1 v2 N M P Q w hN hM h1 h2
theorem MeetK {v1 v2 : Value} {N M : Nat} {P Q : Int → Bool} {w : World} (h1 : IsSet w N P v1) (h2 : IsSet w M Q v2) (hN : N ≤ 10000) (hM : M ≤ 10000) :
    Calls Try.prog 18 #[v1, v2] w (SetPost (2 * N + 2 * M) (fun d => P d && Q d) w) := Meet_any v1 v2 N M P Q w hN hM h1 h2
theorem MinusK {v1 v2 : Value} {N M : Nat} {P Q : Int → Bool} {w : World} (h1 : IsSet w N P v1) (h2 : IsSet w M Q v2) (hN : N ≤ 10000) (hM : M ≤ 10000) :
    Calls Try.prog 19 #[v1, v2] w (SetPost (2 * N + 2 * M) (fun d => P d && !Q d) w) := Minus_any v1 v2 N M P Q w hN hM h1 h2
theorem AllK {v : Value} {N : Nat} {P : Int → Bool} {w : World} (h : IsSet w N P v) (hN : N ≤ 100000) :
    Calls Try.prog 15 #[v] w (ListPost N P w) := All_any v N P w hN h
theorem hasB_take {L : List Sp} {d : Int} {k : Nat} (h : k < L.length) : hasB (L.take (k + 1)) d = (hasB (L.take k) d || inB (L.getD k (0, 0)) d) := by
  rw [Bool.eq_iff_iff, Bool.or_eq_true, hasB_iff, hasB_iff, List.take_add_one, Mem_app, getD_at L _ h]
  simp [h, Mem_one, inB]
theorem canon_eq {K K' : List Sp} {P P' : Int → Bool} (k : Canon K) (k' : Canon K') (m : ∀ d, Mem K d ↔ P d = true) (m' : ∀ d, Mem K' d ↔ P' d = true) (h : ∀ d, P d = P' d) : K = K' :=
  canon_one k k' (fun d => by rw [m, m', h])
theorem SameK {p q : Option Addr} {c c' : Nat} {K L : List Sp} {w : World} (h1 : SpansIn w p K) (h2 : SpansIn w q L) (hK : K.length ≤ 100000) (e : K = L) :
    Calls Try.prog 14 #[.slice p K.length c, .slice q L.length c'] w fun e w' => e = .returned (.bool true) ∧ Below w.heap.size w w' := by
  have := Same_any p q c c' K L w hK h1 h2
  rwa [show decide (K = L) = true by simp [e]] at this
theorem canon_at {K : List Sp} (h : Canon K) : ∀ k, k < K.length → (K.getD k (0, 0)).1 < (K.getD k (0, 0)).2 ∧ (0 < k → (K.getD (k - 1) (0, 0)).2 < (K.getD k (0, 0)).1) := fun k hk => by
  rw [getD_at K _ hk]
  refine ⟨h.2 _ (List.getElem_mem _), fun h0 => ?_⟩
  rw [getD_at K _ (show k - 1 < K.length by omega)]
  exact List.pairwise_iff_getElem.1 h.1 (k - 1) k (by omega) hk (by omega)
theorem AllNoK {v : Value} {N : Nat} {P : Int → Bool} {w : World} (h : IsSet w N P v) (hN : N ≤ 100000) (hP : ∀ d, P d = false) :
    Calls Try.prog 15 #[v] w fun e w' => ∃ q c, e = .returned (.slice q 0 c) ∧ Below w.heap.size w w' := by
  refine (All_any v N P w hN h).mono ?_
  rintro e w' ⟨K, q, c, rfl, k, m, -, -, -, hb⟩
  obtain rfl : K = [] := canon_one k Canon.nil (fun d => by rw [m, hP]; exact ⟨fun h => absurd h (by simp), fun h => absurd h (Mem_nil _)⟩)
  exact ⟨q, c, rfl, hb⟩
theorem hasB_app (K L : List Sp) (d : Int) : hasB (K ++ L) d = (hasB K d || hasB L d) := by
  rw [Bool.eq_iff_iff, Bool.or_eq_true, hasB_iff, hasB_iff, hasB_iff, Mem_app]
theorem SetPost.congr {N : Nat} {P Q : Int → Bool} {w : World} {e : Ending} {w' : World} (h : SetPost N P w e w') (hPQ : ∀ d, P d = Q d) : SetPost N Q w e w' := by
  obtain ⟨v, h1, h2, h3, h4⟩ := h
  exact ⟨v, h1, h2.congr hPQ (Nat.le_refl _), h3, h4⟩
theorem src_of {w : World} {q : Option Addr} {c : Nat} {M : List Sp} (h : SpansIn w q M) (h0 : q = none → c = 0) : q = none ∧ M.length = 0 ∧ c = 0 ∨ ∃ a, q = some a ∧ ∀ j u, (spC M)[j]? = some u → w.cell? (a.add j) = some u := by
  cases q with
  | none =>
    rcases h with rfl | ⟨b, o, h, _⟩
    · exact .inl ⟨rfl, rfl, h0 rfl⟩
    · cases h
  | some a =>
    refine .inr ⟨a, rfl, fun j u hu => ?_⟩
    have hj : j < M.length * 2 := by rw [← spC_len]; exact (List.getElem?_eq_some_iff.1 hu).1
    rcases h with rfl | ⟨b, o, hp, hc⟩
    · simp at hj
    · injection hp with hp
      subst hp
      obtain ⟨a1, a2⟩ := spC_at M (j / 2) (by omega)
      obtain ⟨c1, c2⟩ := hc (j / 2) (by omega)
      rw [Addr.add_lit]
      rcases (show j = j / 2 * 2 ∨ j = j / 2 * 2 + 1 by omega) with e | e
      · rw [e] at hu ⊢; rw [a1] at hu; rw [c1]; exact hu
      · rw [e] at hu ⊢; rw [a2] at hu; rw [← Nat.add_assoc, c2]; exact hu

end Go.Proofs.Ytefcadngdcgpiaa
