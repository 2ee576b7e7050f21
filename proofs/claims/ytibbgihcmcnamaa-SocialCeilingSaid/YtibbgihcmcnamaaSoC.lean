/-
  What is proved: the contracts of social's within and isRight. Conditions: none.
-/
import Derived.Test.YtibbgihcmcnamaaSoB
import Derived.Deep.Cut
import Derived.Laws.StructEq
import Derived.Deep.RegionHeld3
namespace Go.Proofs.Ytibbgihcmcnamaa
open Go Go.RowKit Go.Lib Go.Proofs
open Ra (fitsB fitsB_iff)
set_option linter.unusedVariables false

set_option maxHeartbeats 1000000 in
theorem within_any (a b c d : Int) (w : World) : Calls Try.prog 36 #[.agg #[.int .i64 a, .int .i64 b, .int .i64 c, .int .i64 d]] w fun e w' =>
    e = .returned (.agg #[.int .i64 (max (-1125899906842624) (min a 1125899906842624)), .int .i64 (max 0 (min b 1125899906842624)), .int .i64 (max 0 (min c 1125899906842624)), .int .i64 (max 0 (min d 1125899906842624))]) ∧ Below w.heap.size w w' := by
  have H0 := Lib.hid (fun W => clamp_q a (-1125899906842624) 1125899906842624 W)
  have H1 := Lib.hid (fun W => clamp_q b 0 1125899906842624 W)
  have H2 := Lib.hid (fun W => clamp_q c 0 1125899906842624 W)
  have H3 := Lib.hid (fun W => clamp_q d 0 1125899906842624 W)
  generalize max (-1125899906842624) (min a 1125899906842624) = x0 at H0 ⊢
  generalize max 0 (min b 1125899906842624) = x1 at H1 ⊢
  generalize max 0 (min c 1125899906842624) = x2 at H2 ⊢
  generalize max 0 (min d 1125899906842624) = x3 at H3 ⊢
  go_enter Try.func36, Try.ntmps36
  go_upto_region 1 with fail
  have hn : w.heap.size < (w.alloc (.cells #[.int .i64 a, .int .i64 b, .int .i64 c, .int .i64 d] 24)).heap.size := by simp
  obtain ⟨f0, f1, f2, f3⟩ : C4 ((w.alloc (.cells #[.int .i64 a, .int .i64 b, .int .i64 c, .int .i64 d] 24)).alloc (.cells #[.int .i64 0, .int .i64 0, .int .i64 0, .int .i64 0] 24)).drew w.heap.size a b c d := by
    have h := C4.new w a b c d 24
    exact h.kp (((Below.refl (w.alloc (.cells #[.int .i64 a, .int .i64 b, .int .i64 c, .int .i64 d] 24)).heap.size _).alloc (Nat.le_refl _) _).drew)
  refine wp_region_still_tail 12 (by kernel_rfl) (by kernel_rfl) ?_
  change wpStill _ _ ((w.alloc (.cells #[.int .i64 a, .int .i64 b, .int .i64 c, .int .i64 d] 24)).alloc (.cells #[.int .i64 0, .int .i64 0, .int .i64 0, .int .i64 0] 24)).drew (fun a' => wpList _ _ _ _ a' ((w.alloc (.cells #[.int .i64 a, .int .i64 b, .int .i64 c, .int .i64 d] 24)).alloc (.cells #[.int .i64 0, .int .i64 0, .int .i64 0, .int .i64 0] 24)).drew) _ _
  simp only [List.take_succ_cons, List.take_zero, List.drop_succ_cons, List.drop_zero]
  still_step
  still_step
  still_call (H0.out _)
  still_step
  still_step
  still_call (H1.out _)
  still_step
  still_step
  still_call (H2.out _)
  still_step
  still_step
  still_call (H3.out _)
  refine wpStill_nil ?_
  go_wp2
  exact bodyPost_ret (v := .agg #[.int .i64 x0, .int .i64 x1, .int .i64 x2, .int .i64 x3]) (by simp [results, Try.results36, go_sem]) rfl ⟨rfl, (((Below.refl _ _).alloc (Nat.le_refl _) _).alloc (by simp) _).drew⟩

/-- What was brought within its limits is what it was just if it was within. -/
theorem rightS_eq (a b c d : Int) : rightS a b c d = ((a == max (-1125899906842624) (min a 1125899906842624)) && ((b == max 0 (min b 1125899906842624)) && ((c == max 0 (min c 1125899906842624)) && (d == max 0 (min d 1125899906842624))))) := by
  rw [Bool.eq_iff_iff, rightS_iff]
  simp only [Bool.and_eq_true, beq_iff_eq]
  omega
theorem ways4 (p q r s : Bool) : (p = false ∧ (p && (q && (r && s))) = false) ∨ (p = true ∧ q = false ∧ (p && (q && (r && s))) = false) ∨ (p = true ∧ q = true ∧ r = false ∧ (p && (q && (r && s))) = false) ∨ (p = true ∧ q = true ∧ r = true ∧ s = false ∧ (p && (q && (r && s))) = false) ∨ (p = true ∧ q = true ∧ r = true ∧ s = true ∧ (p && (q && (r && s))) = true) := by
  cases p <;> cases q <;> cases r <;> cases s <;> simp
theorem s_call {W0 w w' : World} (hb : Below w.heap.size w w') (h : Below W0.heap.size W0 w) : Below W0.heap.size W0 w' := h.trans (hb.mono h.size)

set_option maxHeartbeats 4000000 in
theorem isRight_any (a b c d : Int) (w : World) : Calls Try.prog 24 #[.agg #[.int .i64 a, .int .i64 b, .int .i64 c, .int .i64 d]] w fun e w' => e = .returned (.bool (rightS a b c d)) ∧ Below w.heap.size w w' := by
  have H := Lib.hid (fun W => within_any a b c d W)
  rw [rightS_eq]
  generalize max (-1125899906842624) (min a 1125899906842624) = x0 at H ⊢
  generalize max 0 (min b 1125899906842624) = x1 at H ⊢
  generalize max 0 (min c 1125899906842624) = x2 at H ⊢
  generalize max 0 (min d 1125899906842624) = x3 at H ⊢
  have hB := (Below.refl w.heap.size w).alloc (Nat.le_refl _) (.cells #[.int .i64 a, .int .i64 b, .int .i64 c, .int .i64 d] 24)
  have h4 := C4.new w a b c d 24
  generalize hg : w.heap.size = g at hB h4 ⊢
  rcases ways4 (a == x0) (b == x1) (c == x2) (d == x3) with ⟨e0, er⟩ | ⟨e0, e1, er⟩ | ⟨e0, e1, e2, er⟩ | ⟨e0, e1, e2, e3, er⟩ | ⟨e0, e1, e2, e3, er⟩
  all_goals
    rw [er]
    clear er
    go_enter Try.func24, Try.ntmps24
    go_upto_region 1 with fail
    clear hg
    generalize w.alloc (.cells #[.int .i64 a, .int .i64 b, .int .i64 c, .int .i64 d] 24) = W0 at hB h4 ⊢
    have KP : Hid (∀ w', Below W0.heap.size W0 w' → (w'.cell? ⟨g, 0, none⟩ = some (.int .i64 a) ∧ w'.cell? ⟨g, 1, none⟩ = some (.int .i64 b) ∧ w'.cell? ⟨g, 2, none⟩ = some (.int .i64 c) ∧ w'.cell? ⟨g, 3, none⟩ = some (.int .i64 d)) ∧ Below W0.heap.size W0 w') := Lib.hid (fun w' h => ⟨h4.kp h, h⟩)
    have hl := h4.lt
    clear h4
    go_region_held3 (fun w' => (w'.cell? ⟨g, 0, none⟩ = some (.int .i64 a) ∧ w'.cell? ⟨g, 1, none⟩ = some (.int .i64 b) ∧ w'.cell? ⟨g, 2, none⟩ = some (.int .i64 c) ∧ w'.cell? ⟨g, 3, none⟩ = some (.int .i64 d)) ∧ Below W0.heap.size W0 w')
      (first | exact KP.out _ (Below.refl _ _).drew | exact KP.out _ (by assumption))
      (first | (go_at_call 36; refine (H.out _).mono ?_; rintro e w5 ⟨rfl, hb5⟩; have hk5 : Below W0.heap.size W0 w5 := s_call hb5 (by first | assumption | exact (Below.refl _ _).drew | exact (Below.refl _ _))))
    rename_i hHeld
    have hk6 := hHeld.2
    clear hHeld
    go_wp2
    go_ret
    exact ⟨rfl, hB.trans (hk6.mono (Nat.le_of_lt hl))⟩

end Go.Proofs.Ytibbgihcmcnamaa
