/-
  What is proved: the steps that lay a list of the document's own entries, and the contracts of its calendar, of a week, and of 'of' and 'hours' of the statements. Conditions: at most 5000 entries.
-/
import Derived.Test.YtlfflnfodnegnaaSkL
import Derived.Test.YtlfflnfodnegnaaSkP
import Derived.Deep.RegionHeld3
namespace Go.Proofs.Ytlfflnfodnegnaa
open Go Go.RowKit Go.Proofs
set_option linter.unusedVariables false
set_option linter.unusedSimpArgs false

def OneR (w : World) (g : Nat) (x : En) : Prop := w.heap[g]? = some (.cells #[.int .i64 x.1, .int .i64 x.2.1, .int .i64 x.2.2] 68 (0, 0))
theorem OneR.ents {w : World} {g : Nat} {x : En} (h : OneR w g x) : EntsIn w (some ⟨g, 0, none⟩) 1 (fun _ => x) := .inr ⟨g, 0, rfl, fun j hj => by
  obtain rfl : j = 0 := by omega
  unfold OneR at h
  refine ⟨?_, ?_, ?_⟩ <;> simp [World.cell?, h]⟩
theorem run_bs1R (W : World) (x y z : Int) : (Instr.buildSlice 37 1 #[(0, .agg #[.int .i64 x, .int .i64 y, .int .i64 z])]).run Try.prog W = .ok (.slice (some ⟨W.heap.size, 0, none⟩) 1 1) (W.alloc (.cells #[.int .i64 x, .int .i64 y, .int .i64 z] 68)) := by
  kernel_rfl
section
variable {ops : Array Oper} {o : Oper} {a : Act} {w : World} {K : Act → World → Prop} {Q : Exit → Act → World → Prop} {E : Prop}
theorem step_bs1R (d : Tmp) (pO : Operand) (x : En) (hg : o.guard = none) (hd : o.dst = some d) (ho : o.op = .buildSlice 37 1 #[(0, pO)]) (hv : a.eval pO = .agg #[.int .i64 x.1, .int .i64 x.2.1, .int .i64 x.2.2])
    (h : ∀ g w', OneR w' g x → g = w.heap.size → Below w.heap.size w w' → K (a.put (some d) (.slice (some ⟨g, 0, none⟩) 1 1)) w') : if Region.wanted o (yielded ops a.tmps) = true then Oper.wp Try.prog o a w K Q else E := by
  have hw : Region.wanted o (yielded ops a.tmps) = true := by simp [Region.wanted, hg]
  rw [if_pos hw]
  unfold Oper.wp execOp
  simp only [ho, hv, Sem.run_bind, Sem.run_pure, Result.andThen_ok, List.map_toArray, List.map_cons, List.map_nil, run_bs1R]
  rw [Oper.upon_value, hd]
  exact h _ _ (heap_new w _) rfl ((Below.refl _ _).alloc (Nat.le_refl _) _)
theorem step_appR (d : Tmp) (s x : Operand) (hg : o.guard = none) (hd : o.dst = some d) (ho : o.op = .call { callee := .builtin .append, args := #[s, x], argTypes := #[37, 37] })
    (B : Nat) (v : Value) (n : Nat) (xs : List En) (hs : a.eval s = v) (hown : w.ownsRow B 68 3 v n (hrC xs)) (p : Option Addr) (m c : Nat) (F : Nat → En) (hx : a.eval x = .slice p m c) (hD : EntsIn w p m F) (hn : n + m ≤ 100000) (hB : B ≤ w.heap.size)
    (h : ∀ v' w', w'.ownsRow B 68 3 v' (n + m) (hrC (xs ++ lsE F m)) → w.grownBy w' v.ownBlock → (v'.ownBlock = v.ownBlock ∨ v'.ownBlock = some w.heap.size) → K (a.put (some d) v') w') : if Region.wanted o (yielded ops a.tmps) = true then Oper.wp Try.prog o a w K Q else E := by
  have hw : Region.wanted o (yielded ops a.tmps) = true := by simp [Region.wanted, hg]
  rw [if_pos hw]
  obtain ⟨i, hi, z1, z2, z3⟩ := info_parts (P := Try.prog) (e := 68) (z := .agg #[.int .i64 0, .int .i64 0, .int .i64 0]) (size := 3) (bytes := 24) (by kernel_rfl)
  have hrun : ∃ v' w', (Builtin.append_ #[37, 37] o.type #[v, .slice p m c]).run Try.prog w = .ok v' w' ∧ w'.ownsRow B 68 3 v' (n + m) (hrC (xs ++ lsE F m)) ∧ w.grownBy w' v.ownBlock ∧ (v'.ownBlock = v.ownBlock ∨ v'.ownBlock = some w.heap.size) := by
    rcases hp : p with _ | ad
    · have hm0 : m = 0 := by
        rcases hD with h1 | ⟨b, oo, h1, _⟩
        · exact h1
        · rw [hp] at h1; cases h1
      subst hm0
      exact ⟨v, w, run_append_owned_none (P := Try.prog) (w := w) B 37 o.type 68 i 3 (by kernel_rfl) hi v n (hrC xs) hown, by simpa [lsE] using hown, World.grownBy.refl w _, .inl rfl⟩
    · have hnews : ∀ j u, (hrC (lsE F m))[j]? = some u → w.cell? (ad.add j) = some u := fun j u hu => by
        obtain ⟨hq, u0, u1, u2⟩ := hrC_get hu
        rw [lsE_len] at hq
        rcases hD with h1 | ⟨b, oo, h1, h2⟩
        · omega
        · rw [hp] at h1
          obtain rfl := Option.some.inj h1
          obtain ⟨a0, a1, a2⟩ := h2 (j / 3) hq
          rw [lsE_at F hq] at u0 u1 u2
          rw [show (Addr.mk b oo none).add j = ⟨b, oo + j, none⟩ by unfold Addr.add; split <;> simp_all]
          rcases (show j % 3 = 0 ∨ j % 3 = 1 ∨ j % 3 = 2 by omega) with e | e | e
          · rw [u0 e, ← a0, show oo + j / 3 * 3 = oo + j by omega]
          · rw [u1 e, ← a1, show oo + j / 3 * 3 + 1 = oo + j by omega]
          · rw [u2 e, ← a2, show oo + j / 3 * 3 + 2 = oo + j by omega]
      obtain ⟨v', w', r1, r2, r3, _, r5⟩ := run_append_own_at (P := Try.prog) w B 37 o.type 68 i (.agg #[.int .i64 0, .int .i64 0, .int .i64 0]) 3 24 (by kernel_rfl) hi z1 z2 z3 rfl (by decide) v n (hrC xs) hown ad m c (hrC (lsE F m)) (by rw [hrC_len, lsE_len]) hnews
        (fun u hu => by
          obtain ⟨j, hj⟩ := List.getElem?_of_mem hu
          obtain ⟨-, u0, u1, u2⟩ := hrC_get hj
          rcases (show j % 3 = 0 ∨ j % 3 = 1 ∨ j % 3 = 2 by omega) with e | e | e
          · rw [u0 e]; rfl
          · rw [u1 e]; rfl
          · rw [u2 e]; rfl) (by unfold maxLen; omega) (by omega) hB
      exact ⟨v', w', r1, by rw [hrC_app]; exact r2, r3, r5⟩
  obtain ⟨v', w', r1, r2, r3, r4⟩ := hrun
  unfold Oper.wp execOp
  simp only [ho, resolve, invoke, builtin, Sem.run_bind, Sem.run_pure, Result.andThen_ok, List.map_toArray, List.map_cons, List.map_nil, hs, hx, r1]
  have := h v' w' r2 r3 r4
  rw [← hd] at this
  exact this
end

theorem rin_any (n : Int) (w : World) : Calls Try.prog 24 #[.int .i64 n] w fun e w' => e = .returned (.bool (inB n)) ∧ w = w' := by
  by_cases h1 : -25567 ≤ n
  · by_cases h2 : n ≤ 84005
    · rw [inB_yes h1 h2]
      go_enter Try.func24, Try.ntmps24
      go_wp2
      go_ret
      exact ⟨rfl, rfl⟩
    · rw [inB_no (by omega)]
      go_enter Try.func24, Try.ntmps24
      go_wp2
      go_ret
      exact ⟨rfl, rfl⟩
  · rw [inB_no (by omega)]
    go_enter Try.func24, Try.ntmps24
    go_wp2
    go_ret
    exact ⟨rfl, rfl⟩
theorem rwk_any (n : Int) (h1 : -25567 ≤ n) (h2 : n ≤ 84005) (w : World) : Calls Try.prog 33 #[.int .i64 n] w fun e w' => e = .returned (.int .i64 (wkV n)) ∧ w = w' := by
  rw [show wkV n = (n + 25567) % 7 by simp [wkV, inB_yes h1 h2]]
  go_enter Try.func33, Try.ntmps33
  go_wp2
  go_ret
  exact ⟨rfl, rfl⟩
theorem rMon_any (d : Int) (h : inB d = true) (w : World) : Calls Try.prog 25 #[.int .i64 d] w fun e w' => e = .returned (.int .i64 (mon d)) ∧ w = w' := by
  obtain ⟨h1, h2⟩ := inB_iff.1 h
  have HW := rwk_any d h1 h2
  have hk : wkV d = (d + 25567) % 7 := by unfold wkV; rw [if_pos h]
  obtain ⟨m, hm⟩ : ∃ m : Nat, (m : Int) = wkV d := ⟨(wkV d).toNat, by omega⟩
  have m7 : m < 7 := by omega
  have hM : Hid (mon d = d - m) := Lib.hid (by unfold mon; rw [hm])
  rw [← hm] at HW
  replace HW := Lib.hid HW
  clear h hk hm
  go_enter Try.func25, Try.ntmps25
  go_wp2_with (go_at_call 33; refine (HW.out _).mono ?_; rintro e w' ⟨rfl, rfl⟩)
  go_ret
  exact ⟨by rw [hM.out]; rfl, rfl⟩
theorem hours_any (h : Hr) (w : World) : Calls Try.prog 15 #[.agg #[.int .i64 h.1, .int .i64 h.2.1, .int .i64 h.2.2]] w fun e w' => e = .returned (.agg #[.int .i64 h.1, .int .i64 h.2.1, .int .i64 h.2.2]) ∧ Below w.heap.size w w' := by
  obtain ⟨a0, a1, a2⟩ := h
  simp only
  go_enter Try.func15, Try.ntmps15
  go_wp2
  obtain ⟨W2, hW2⟩ : ∃ W2, W2 = w.alloc (.cells #[.int .i64 a0, .int .i64 a1, .int .i64 a2] 30) := ⟨_, rfl⟩
  have hz : W2.heap.size = w.heap.size + 1 := by rw [hW2]; simp
  have hb0 : Below w.heap.size w W2 := by rw [hW2]; exact (Below.refl _ w).alloc (Nat.le_refl _) _
  have c := new_at W2 #[.int .i64 a0, .int .i64 a1, .int .i64 a2] 41
  rw [hz] at c
  have c0 := c 0
  have c1 := c 1
  have c2 := c 2
  rw [← hW2]
  exact bodyPost_ret (v := .agg #[.int .i64 a0, .int .i64 a1, .int .i64 a2]) (by simp [results, Try.results15, go_sem, c0, c1, c2]) rfl ⟨rfl, hb0.alloc (by omega) _⟩

end Go.Proofs.Ytlfflnfodnegnaa
