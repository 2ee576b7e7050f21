/-
  What is proved: the contracts of sets once more, in the form in which the statements' walks use them. Conditions: as there.
-/
import Derived.Test.YtjpoldadkhmheaaSpN
namespace Go.Proofs.Ytjpoldadkhmheaa
open Go Go.RowKit Go.Proofs

theorem IsSet.none (w : World) : IsSet w 0 (fun _ => false) (.agg #[.slice none 0 0]) := ⟨[], Option.none, 0, rfl, Canon.nil, fun d => ⟨fun h => absurd h (Mem_nil _), fun h => by cases h⟩, (fun s hs => by cases hs), Nat.le_refl _, (fun a ha => by cases ha), .inl rfl⟩
theorem HasK {v : Value} {N : Nat} {P : Int → Bool} {d : Int} {w : World} (r : Bool) (h : IsSet w N P v) (hN : N ≤ 100000) (hr : P d = r) :
    Calls Try.prog 20 #[v, .int .i64 d] w fun e w' => e = .returned (.bool r) ∧ Below w.heap.size w w' := by
  subst hr; exact Has_any v N P d w hN h
theorem UnionK {v1 v2 : Value} {N M : Nat} {P Q : Int → Bool} {w : World} (h1 : IsSet w N P v1) (h2 : IsSet w M Q v2) (hN : N ≤ 10000) (hM : M ≤ 10000) :
    Calls Try.prog 16 #[v1, v2] w (SetPost (2 * N + 2 * M) (fun d => P d || Q d) w) := Union_any v1 v2 N M P Q w hN hM h1 h2
theorem MeetK {v1 v2 : Value} {N M : Nat} {P Q : Int → Bool} {w : World} (h1 : IsSet w N P v1) (h2 : IsSet w M Q v2) (hN : N ≤ 10000) (hM : M ≤ 10000) :
    Calls Try.prog 18 #[v1, v2] w (SetPost (2 * N + 2 * M) (fun d => P d && Q d) w) := Meet_any v1 v2 N M P Q w hN hM h1 h2
theorem MinusK {v1 v2 : Value} {N M : Nat} {P Q : Int → Bool} {w : World} (h1 : IsSet w N P v1) (h2 : IsSet w M Q v2) (hN : N ≤ 10000) (hM : M ≤ 10000) :
    Calls Try.prog 19 #[v1, v2] w (SetPost (2 * N + 2 * M) (fun d => P d && !Q d) w) := Minus_any v1 v2 N M P Q w hN hM h1 h2
theorem AllK {v : Value} {N : Nat} {P : Int → Bool} {w : World} (h : IsSet w N P v) (hN : N ≤ 100000) :
    Calls Try.prog 15 #[v] w (ListPost N P w) := All_any v N P w hN h
theorem hasB_take {L : List Sp} {d : Int} {k : Nat} (h : k < L.length) : hasB (L.take (k + 1)) d = (hasB (L.take k) d || inB (L.getD k (0, 0)) d) := by
  rw [Bool.eq_iff_iff, Bool.or_eq_true, hasB_iff, hasB_iff, List.take_add_one, Mem_app, getD_at L _ h]
  simp [h, Mem_one, inB]
theorem canon_eq {K K' : List Sp} {P P' : Int → Bool} (k : Canon K) (k' : Canon K') (m : ∀ d, Mem K d ↔ P d = true) (m' : ∀ d, Mem K' d ↔ P' d = true) (h : ∀ d, P d = P' d) : K = K' :=
  canon_one k k' (fun d => by rw [m, m', h])
theorem SameK {p q : Option Addr} {c c' : Nat} {K L : List Sp} {w : World} (h1 : SpansIn w p K) (h2 : SpansIn w q L) (hK : K.length ≤ 100000) (e : K = L) :
    Calls Try.prog 14 #[.slice p K.length c, .slice q L.length c'] w fun e w' => e = .returned (.bool true) ∧ Below w.heap.size w w' := by
  have := Same_any p q c c' K L w hK h1 h2
  rwa [show decide (K = L) = true by simp [e]] at this

end Go.Proofs.Ytjpoldadkhmheaa
