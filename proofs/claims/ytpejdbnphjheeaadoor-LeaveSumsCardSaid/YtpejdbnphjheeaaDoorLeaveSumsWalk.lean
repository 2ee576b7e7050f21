/-
  What is proved: the walk of the statement LeaveSums: the call returns true. Conditions: the tables read as their texts lay them.
-/
import Derived.Test.YtpejdbnphjheeaaDoorLvQ
namespace Go.Proofs.YtpejdbnphjheeaaDoor
open Go Go.RowKit Go.Proofs Go.Proofs.YtpejdbnphjheeaaDoor.Cv
set_option linter.unusedVariables false

/-- Nothing is lost within the first year. -/
theorem first_year {Y0 Ca Ex u Y : Int} {l : List Mv} (hl : ∀ x ∈ l, (mvE x).ok) (y0 : 1900 ≤ Y0) (hY : Y ≤ 2199) (c0 : 0 ≤ Ca) (x0 : 0 ≤ Ex) (h : Y ≤ Y0) : (yearsE Y0 Ca Ex u l (Y + 1 - Y0).toNat).lo = 0 := by
  have key : ∀ (es : List Ev) (b : Bal), (∀ e ∈ es, e.ok ∧ e.isTurn = false) → b.ca = 0 → b.lo = 0 → (applyE u Ca b es).lo = 0 := by
    intro es
    induction es with
    | nil => intro b _ _ h; exact h
    | cons e r ih =>
      intro b he hca hlo
      obtain ⟨ok, tu⟩ := he e (by simp)
      refine ih (stepE u Ca b e) (fun x hx => he x (by simp [hx])) ?_ ?_
      · unfold stepE; split
        · cases e with
          | turn d => cases tu
          | exp d => rfl
          | mv d g t => simp only [Ev.ok] at ok; simp only [Ev.act, Bal.mv]; omega
        · exact hca
      · unfold stepE; split
        · cases e with
          | turn d => cases tu
          | exp d => simp only [Ev.act, Bal.exp]; omega
          | mv d g t => exact hlo
        · exact hlo
  by_cases e : Y = Y0
  · subst e
    rw [show (Y + 1 - Y).toNat = 1 by omega]
    show (applyE u Ca ⟨0, 0, 0, 0, 0⟩ (yearL Y Ex l (Y + ((0 : Nat) : Int)))).lo = 0
    rw [show Y + ((0 : Nat) : Int) = Y by omega, yearL_eq, if_neg (by omega), List.nil_append]
    exact key _ _ (restL_ok y0 hY x0 hl) rfl rfl
  · rw [show (Y + 1 - Y0).toNat = 0 by omega]; rfl

set_option maxHeartbeats 4000000 in
set_option maxRecDepth 100000 in
theorem walkLeaveSums (py pc px u : Int) (a : Option Addr) (n c : Nat) (f : Nat → Mv) (w : World) (hP : in64 py ∧ in64 pc ∧ in64 px) (hu : (Lit.int .i64 u).wf = true) (hM : MvArg w a n c f) (hT : Tab4 w) :
    Calls Tryd.prog 4 #[.agg #[.int .i64 py, .int .i64 pc, .int .i64 px], .int .i64 u, .slice a n c] w fun e w' => e = .returned (.bool true) ∧ Below w.heap.size w w' := by
  have hmv := hM.mv
  obtain ⟨-, hcp, -, -⟩ := hM
  obtain ⟨W1, hW1⟩ : ∃ W1, W1 = w.alloc (.cells #[.int .i64 py, .int .i64 pc, .int .i64 px] 23) := ⟨_, rfl⟩
  have hb0 : Below w.heap.size w W1 := by rw [hW1]; exact (Below.refl w.heap.size w).alloc (Nat.le_refl _) _
  have hp : W1.heap[w.heap.size]? = some (.cells #[.int .i64 py, .int .i64 pc, .int .i64 px] 23 (0, 0)) := by rw [hW1]; exact heap_new _ _
  have q0 : W1.cell? ⟨w.heap.size, 0, none⟩ = some (.int .i64 py) := cell_of hp 0 rfl
  have T1 := Lib.hid (hT.stay hb0)
  have HA := Lib.hid awake_any
  have mixed : Tryd.prog.follows .mixedOrders = true := by kernel_rfl
  obtain ⟨D, hD⟩ : ∃ D : Nat → Int, D = fun j => (f j).1 := ⟨_, rfl⟩
  obtain ⟨G, hG⟩ : ∃ D : Nat → Int, D = fun j => (f j).2.1 := ⟨_, rfl⟩
  obtain ⟨T, hT'⟩ : ∃ D : Nat → Int, D = fun j => (f j).2.2 := ⟨_, rfl⟩
  rw [← hD, ← hG, ← hT'] at hmv
  clear hD hG hT' hT hP hu hp
  by_cases h100 : 100 < n
  · have i1 : (100 : Int) < (n : Int) := by omega
    go_enter Tryd.func4, Tryd.ntmps4
    go_wp2_with fail
    rw [← hW1]
    refine (HA.out _ T1.out).mono ?_
    rintro e w2 ⟨rfl, hb⟩
    go_wp2
    go_ret
    exact ⟨rfl, hb0.trans (hb.mono hb0.size)⟩
  have i1 : ¬ (100 : Int) < (n : Int) := by omega
  have HF := Lib.hid (fold_any py pc px u a n c D G T W1 (by omega) hcp (hmv.below hb0 (Nat.le_refl _)) T1.out.1)
  rw [hW1] at HF
  go_enter Tryd.func4, Tryd.ntmps4
  go_wp2_with fail
  refine (HF.out).mono ?_
  rintro e w2 ⟨hb2, hr⟩
  rw [← hW1] at hb2
  clear hW1 HF
  have T2 := T1.out.stay hb2
  have p0 := stay hb2 q0
  have hb3 := hb0.trans (hb2.mono hb0.size)
  rcases hr with ⟨hv, rfl⟩ | ⟨hv, Y, hY, rfl⟩
  · obtain ⟨V, hV⟩ : ∃ V, checkV py pc px u n D G T = V := ⟨_, rfl⟩
    rw [hV] at hv ⊢
    have dV : (V != 0) = true := by simp [hv]
    have T3 := Lib.hid (T2.stay ((Below.refl w2.heap.size w2).alloc (Nat.le_refl _) (.cells #[.int .i64 0, .int .i64 0, .int .i64 0, .int .i64 0] 28)))
    clear hV
    go_wp2_with fail
    refine (HA.out _ T3.out).mono ?_
    rintro e w4 ⟨rfl, hb⟩
    go_wp2
    go_ret
    exact ⟨rfl, (hb3.alloc hb3.size _).trans (hb.mono (by have := hb3.size; simp; omega))⟩
  · have hI := fold_inv (by omega) hv hY
    have hz := check_zero hv
    have HFY := Lib.hid (fun h => first_year (Y0 := py) (Ca := pc) (Ex := px) (u := u) (Y := Y) (l := mvL n D G T) (fun x hx => by obtain ⟨j, hj, rfl⟩ := mvL_mem hx; exact (hz.2.2.2.1 j hj).2.2) hz.1.1 hY.2.1 hz.1.2.2.1 hz.1.2.2.2.2.1 h)
    obtain ⟨b, hb⟩ : ∃ b, b = yearsE py pc px u (mvL n D G T) (Y + 1 - py).toNat := ⟨_, rfl⟩
    rw [← hb] at hI HFY ⊢
    clear hb
    obtain ⟨b1, b2, b3', b4, b5, b6, b7, b8, b9, b10⟩ := hI.bd
    have hsum := hI.sum
    obtain ⟨fr, ca, gr, ta, lo⟩ := b
    simp only at b1 b2 b3' b4 b5 b6 b7 b8 b9 b10 hsum HFY
    unfold accV
    simp only
    have hne : (gr != ta + lo + (fr + ca)) = false := by simp; omega
    clear hsum
    have hl0 : decide (lo < 0) = false := decide_eq_false (by omega)
    have ht0 : decide (ta < 0) = false := decide_eq_false (by omega)
    obtain ⟨u1, u2, u3, u4⟩ := hY
    obtain ⟨y, m, d, ok, hn⟩ := date_of u (inB_iff.1 hz.2.1).1 (inB_iff.1 hz.2.1).2
    have hYy : Y = y := by
      have hi := num_in ok
      obtain ⟨o1, o2, -⟩ := okB_iff.1 ok
      rw [hn] at hi
      exact year_one ⟨u1, u2, u3, u4⟩ ⟨o1, o2, hi.1, hi.2.1⟩
    subst hYy
    have HR := Lib.hid (fun W => rto_yes Y m d u ok hn W)
    have fd : ∀ W, (Instr.field 39 (.agg #[.int .i64 Y, .int .i64 m, .int .i64 d]) 0).run Tryd.prog W = .ok (.int .i64 Y) W := fun _ => by kernel_rfl
    obtain ⟨W3, hW3⟩ : ∃ W3, W3 = w2.alloc (.cells #[.int .i64 gr, .int .i64 ta, .int .i64 lo, .int .i64 (fr + ca)] 28) := ⟨_, rfl⟩
    have hb4 : Below w2.heap.size w2 W3 := by rw [hW3]; exact (Below.refl _ _).alloc (Nat.le_refl _) _
    have c2 : W3.cell? ⟨w2.heap.size, 2, none⟩ = some (.int .i64 lo) := by rw [hW3, World.cell?_alloc_new]; rfl
    have k0 := fun p => cell_by (stay hb4 p0) p
    have k2 := fun p => cell_by c2 p
    have T3 := Lib.hid (T2.stay hb4)
    have HB := Lib.hid (hb3.trans (hb4.mono hb3.size))
    have HFY2 := Lib.hid (show py < Y ∨ lo = 0 from by
      by_cases h : Y ≤ py
      · exact .inr (HFY.out h)
      · exact .inl (by omega))
    clear ok hn u3 u4 hz hI hv hb2 hb3 hb4 hb0 T1 T2 hmv q0 p0 HFY c2
    go_upto_region 8 with fail
    rw [← hW3]
    clear hW3
    rcases HFY2.out with h | rfl
    · have d1 : decide (py < Y) = true := decide_eq_true h
      refine wp_region_quiet_below (W0 := W3) mixed (by kernel_rfl) (Below.refl _ _) ?_
      repeat (quiet_step (first | (go_at_call 14; exact below_of (HR.out _)) | (go_at_call 9; exact below_of (HA.out _ (T3.out.stay (BelowBy.h _))))))
      refine wpQuiet_nil ?_
      rintro _ ⟨p, rfl⟩
      go_wp2
      go_ret
      exact ⟨rfl, HB.out.trans (p.h.mono HB.out.size)⟩
    · by_cases h : py < Y
      · have d1 : decide (py < Y) = true := decide_eq_true h
        refine wp_region_quiet_below (W0 := W3) mixed (by kernel_rfl) (Below.refl _ _) ?_
        repeat (quiet_step (first | (go_at_call 14; exact below_of (HR.out _)) | (go_at_call 9; exact below_of (HA.out _ (T3.out.stay (BelowBy.h _))))))
        refine wpQuiet_nil ?_
        rintro _ ⟨p, rfl⟩
        go_wp2
        go_ret
        exact ⟨rfl, HB.out.trans (p.h.mono HB.out.size)⟩
      · have d1 : decide (py < Y) = false := decide_eq_false h
        refine wp_region_quiet_below (W0 := W3) mixed (by kernel_rfl) (Below.refl _ _) ?_
        repeat (quiet_step (first | (go_at_call 14; exact below_of (HR.out _)) | (go_at_call 9; exact below_of (HA.out _ (T3.out.stay (BelowBy.h _))))))
        refine wpQuiet_nil ?_
        rintro _ ⟨p, rfl⟩
        go_wp2
        go_ret
        exact ⟨rfl, HB.out.trans (p.h.mono HB.out.size)⟩

end Go.Proofs.YtpejdbnphjheeaaDoor
