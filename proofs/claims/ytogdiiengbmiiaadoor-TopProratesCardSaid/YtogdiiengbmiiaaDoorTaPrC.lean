/-
  What is proved: texts of other seats, joined for this one: what each theorem says. Conditions: as each says.
-/
import Derived.Test.YtogdiiengbmiiaaDoorTaPrA
import Derived.Test.YtogdiiengbmiiaaDoorTaSpE
import Derived.Deep.RegionLaw
namespace Go.Proofs.YtogdiiengbmiiaaDoor
open Go Go.RowKit Go.Proofs
open Sp (IsSet Mem Canon hasB SetPost)

theorem pw_or {K : List Sp.Sp} (h : K.Pairwise (fun s t => s.2 < t.1)) : ∀ u ∈ K, ∀ s ∈ K, u = s ∨ u.2 < s.1 ∨ s.2 < u.1 := by
  induction K with
  | nil => intro u hu; cases hu
  | cons a r ih =>
    obtain ⟨h1, h2⟩ := List.pairwise_cons.1 h
    intro u hu s hs
    rcases List.mem_cons.1 hu with hu' | hu' <;> rcases List.mem_cons.1 hs with hs' | hs'
    · exact .inl (hu'.trans hs'.symm)
    · rw [hu']; exact .inr (.inl (h1 s hs'))
    · rw [hs']; exact .inr (.inr (h1 u hu'))
    · exact ih h2 u hu' s hs'
theorem starts {K L : List Sp.Sp} (hK : Canon K) (h : ∀ d, Mem K d ↔ Mem L d) : ∀ x ∈ K.map (·.1), x ∈ L.map (·.1) := by
  intro x hx
  obtain ⟨s, hs, rfl⟩ := List.mem_map.1 hx
  have s2 := hK.2 s hs
  obtain ⟨t, ht, t1, t2⟩ := (h s.1).1 ⟨s, hs, by omega, s2⟩
  refine List.mem_map.2 ⟨t, ht, ?_⟩
  by_cases he : t.1 = s.1
  · exact he
  obtain ⟨u, hu, u1, u2⟩ := (h (s.1 - 1)).2 ⟨t, ht, by omega, by omega⟩
  rcases pw_or hK.1 u hu s hs with rfl | h1 | h1 <;> omega
theorem sub_len : ∀ (A B : List Int), A.Nodup → (∀ x ∈ A, x ∈ B) → A.length ≤ B.length
  | [], _, _, _ => Nat.zero_le _
  | a :: r, B, hn, h => by
    obtain ⟨h1, h2⟩ := List.nodup_cons.1 hn
    have h3 := sub_len r (B.erase a) h2 (fun x hx => (List.mem_erase_of_ne (fun e => h1 (by rw [← e]; exact hx))).2 (h x (by simp [hx])))
    rw [List.length_erase_of_mem (h a (by simp))] at h3
    have h4 : 0 < B.length := List.length_pos_of_mem (h a (by simp))
    simp only [List.length_cons]
    omega
theorem canon_nodup : ∀ {K : List Sp.Sp}, Canon K → (K.map (·.1)).Nodup
  | [], _ => List.nodup_nil
  | s :: r, h => by
    obtain ⟨h1, h2⟩ := List.pairwise_cons.1 h.1
    refine List.nodup_cons.2 ⟨fun hm => ?_, canon_nodup ⟨h2, fun t ht => h.2 t (by simp [ht])⟩⟩
    obtain ⟨t, ht, e⟩ := List.mem_map.1 hm
    have a1 := h1 t ht
    have a2 := h.2 s (by simp)
    dsimp only at e
    omega
theorem canon_len {K L : List Sp.Sp} (hK : Canon K) (h : ∀ d, Mem K d ↔ Mem L d) : K.length ≤ L.length := by
  simpa using sub_len _ _ (canon_nodup hK) (starts hK h)
theorem IsSet_tight {w : World} {N M : Nat} {P : Int → Bool} {v : Value} {L : List Sp.Sp} (h : IsSet w N P v) (hP : ∀ d, P d = hasB L d) (hM : L.length ≤ M) : IsSet w M P v := by
  obtain ⟨K, p, c, rfl, k1, m1, a64, -, hs, s1⟩ := h
  have hl := canon_len (L := L) k1 (fun d => by rw [m1 d, hP d]; exact Sp.hasB_iff)
  exact ⟨K, p, c, rfl, k1, m1, a64, by omega, hs, s1⟩

theorem DaysE {v : Value} {N : Nat} {P : Int → Bool} {w : World} (h : IsSet w N P v) (hN : N ≤ 100000) :
    Calls Tryd.prog 24 #[v] w fun e w' => ∃ r : Int, e = .returned (.int .i64 r) ∧ 0 ≤ r ∧ r ≤ 4611686018427387904 ∧ (r = 0 ↔ ∀ d, P d = false) ∧ Below w.heap.size w w' := by
  refine (Sp.Days_any v N P w hN h).mono ?_
  rintro e w' ⟨⟨K, k1, m1, -, rfl⟩, hb⟩
  have hnn := Sp.dsum_nn K
  obtain ⟨b1, b2⟩ := Sp.cut62_bd hnn
  refine ⟨_, rfl, b1, b2, ⟨fun h0 d => ?_, fun h0 => ?_⟩, hb⟩
  · cases hd : P d with
    | false => rfl
    | true =>
      exfalso
      obtain ⟨s, hs, hs1, hs2⟩ := (m1 d).2 hd
      cases K with
      | nil => cases hs
      | cons a r =>
        have ha := k1.2 a (by simp)
        have hr := Sp.dsum_nn r
        have e1 : Sp.dsum (a :: r) = Sp.lenS a + Sp.dsum r := rfl
        have e2 : Sp.lenS a = a.2 - a.1 := by unfold Sp.lenS; split <;> omega
        unfold Sp.cut62 at h0
        split at h0 <;> omega
  · have : K = [] := by
      cases K with
      | nil => rfl
      | cons a r =>
        have ha := k1.2 a (by simp)
        have := (m1 a.1).1 ⟨a, by simp, by omega, ha⟩
        rw [h0] at this; cases this
    subst this
    rfl

set_option maxHeartbeats 1000000 in
set_option maxRecDepth 100000 in
theorem hasMinus {v1 v2 : Value} {N M : Nat} {P Q : Int → Bool} {w : World} (b : Bool) (h1 : IsSet w N P v1) (h2 : IsSet w M Q v2) (hN : N ≤ 10000) (hM : M ≤ 10000) (hb : b = true ↔ ∃ d, (P d && !Q d) = true) :
    Calls Tryd.prog 25 #[.func (.func 26) #[v1] #[], v2] w fun e w' => e = .returned (.bool b) ∧ Below w.heap.size w w' := by
  have H2 := Lib.hid h2
  obtain ⟨K, p, c, rfl, -⟩ := h2
  obtain ⟨K', p', c', e', -⟩ := id h1
  have hb0 := (Below.refl w.heap.size w).alloc (Nat.le_refl _) (.cells #[.slice p K.length c] 50)
  have HM := Lib.hid (Sp.MinusK (h1.below hb0 (Nat.le_refl _)) (H2.out.below hb0 (Nat.le_refl _)) hN hM)
  have HB := Lib.hid hb
  subst e'
  clear h1 hb
  go_enter Tryd.func25, Tryd.ntmps25
  go_wp2_with fail
  refine (HM.out).mono ?_
  rintro e w1 ⟨v, rfl, hset, hb1, -⟩
  have hbw := hb0.trans (hb1.mono hb0.size)
  have HD := Lib.hid (DaysE hset (by omega))
  clear HM hset hb1 hb0
  go_wp2_with fail
  refine (HD.out).mono ?_
  rintro e w2 ⟨r, rfl, r0, r1, hr, hb2⟩
  have hbb : decide (0 < r) = b := by
    cases b with
    | true =>
      obtain ⟨d, hd⟩ := HB.out.1 rfl
      simp only [decide_eq_true_eq]
      have : r ≠ 0 := fun h0 => by rw [hr.1 h0 d] at hd; cases hd
      omega
    | false =>
      have : r = 0 := hr.2 (fun d => by
        cases hd : (P d && !Q d) with
        | false => rfl
        | true => have := HB.out.2 ⟨d, hd⟩; cases this)
      simp only [decide_eq_false_iff_not]
      omega
  have hbz := hbw.trans (hb2.mono hbw.size)
  subst hbb
  clear HB hr HD
  go_wp2
  go_ret
  exact ⟨rfl, hbz⟩

set_option maxHeartbeats 1000000 in
set_option maxRecDepth 100000 in
theorem hasMeet {v1 v2 : Value} {N M : Nat} {P Q : Int → Bool} {w : World} (b : Bool) (h1 : IsSet w N P v1) (h2 : IsSet w M Q v2) (hN : N ≤ 10000) (hM : M ≤ 10000) (hb : b = true ↔ ∃ d, (P d && Q d) = true) :
    Calls Tryd.prog 25 #[.func (.func 28) #[v1] #[], v2] w fun e w' => e = .returned (.bool b) ∧ Below w.heap.size w w' := by
  have H2 := Lib.hid h2
  obtain ⟨K, p, c, rfl, -⟩ := h2
  obtain ⟨K', p', c', e', -⟩ := id h1
  have hb0 := (Below.refl w.heap.size w).alloc (Nat.le_refl _) (.cells #[.slice p K.length c] 50)
  have HM := Lib.hid (Sp.MeetK (h1.below hb0 (Nat.le_refl _)) (H2.out.below hb0 (Nat.le_refl _)) hN hM)
  have HB := Lib.hid hb
  subst e'
  clear h1 hb
  go_enter Tryd.func25, Tryd.ntmps25
  go_wp2_with fail
  refine (HM.out).mono ?_
  rintro e w1 ⟨v, rfl, hset, hb1, -⟩
  have hbw := hb0.trans (hb1.mono hb0.size)
  have HD := Lib.hid (DaysE hset (by omega))
  clear HM hset hb1 hb0
  go_wp2_with fail
  refine (HD.out).mono ?_
  rintro e w2 ⟨r, rfl, r0, r1, hr, hb2⟩
  have hbb : decide (0 < r) = b := by
    cases b with
    | true =>
      obtain ⟨d, hd⟩ := HB.out.1 rfl
      simp only [decide_eq_true_eq]
      have : r ≠ 0 := fun h0 => by rw [hr.1 h0 d] at hd; cases hd
      omega
    | false =>
      have : r = 0 := hr.2 (fun d => by
        cases hd : (P d && Q d) with
        | false => rfl
        | true => have := HB.out.2 ⟨d, hd⟩; cases this)
      simp only [decide_eq_false_iff_not]
      omega
  have hbz := hbw.trans (hb2.mono hbw.size)
  subst hbb
  clear HB hr HD
  go_wp2
  go_ret
  exact ⟨rfl, hbz⟩


open Go Go.RowKit Go.Proofs
open Sp (IsSet Mem Canon hasB SetPost SpansIn)

theorem OfOne (p : Option Addr) (c : Nat) (x y : Int) (w : World) (hx : in64 x) (hy : in64 y) (h : SpansIn w p [(x, y)]) :
    Calls Tryd.prog 9 #[.slice p 1 c] w (SetPost 2 (fun d => hasB [(x, y)] d) w) :=
  Sp.Of_set p c [(x, y)] w (by simp) (fun s hs => by rw [List.mem_singleton.1 hs]; exact ⟨hx, hy⟩) h
theorem one_in (w : World) (x y : Int) (t : TypeId) : SpansIn (w.alloc (.cells #[.int .i64 x, .int .i64 y] t)) (some ⟨w.heap.size, 0, none⟩) [(x, y)] := by
  refine .inr ⟨_, _, rfl, fun j hj => ?_⟩
  have e : j = 0 := by simp at hj; omega
  subst e
  rw [World.cell?_alloc_new, World.cell?_alloc_new]
  exact ⟨rfl, rfl⟩
theorem one_has (x y d : Int) : hasB [(x, y)] d = true ↔ x ≤ d ∧ d < y := by
  rw [Sp.hasB_iff]; unfold Mem; simp
/-- What is wrong with the days x up to y of a piece, of a period of the days a up to b; cr tells whether a piece ahead has one of them. -/
def chkE (a b x y : Int) (cr : Bool) : Int := if y ≤ x ∨ x < a ∨ b < y ∨ 366 < b - a then 24 else if cr = true then 16 else 0
theorem stay {W0 w : World} {p : Addr} {v : Value} (h : Below W0.heap.size W0 w) (x : W0.cell? p = some v) : w.cell? p = some v := (h.cell (World.block_lt_of_cell? W0 _ x)).trans x
theorem s_call {W0 w w' : World} (hb : Below w.heap.size w w') (h : Below W0.heap.size W0 w) : Below W0.heap.size W0 w' := h.trans (hb.mono h.size)

theorem run_one (W : World) (x y : Int) : (Instr.buildSlice 48 1 #[(0, .agg #[.int .i64 x, .int .i64 y])]).run Tryd.prog W = .ok (.slice (some ⟨W.heap.size, 0, none⟩) 1 1) (W.alloc (.cells #[.int .i64 x, .int .i64 y] 34)) := by
  kernel_rfl
theorem want {c p q : Prop} [Decidable c] (hc : c) (h : p) : if c then p else q := by rw [if_pos hc]; exact h
theorem opOne {o : Oper} {a : Act} {w : World} {K : Act → World → Prop} {Q : Exit → Act → World → Prop} (d : Tmp) (pO : Operand) (x y : Int) (hd : o.dst = some d) (ho : o.op = .buildSlice 48 1 #[(0, pO)]) (hv : a.eval pO = .agg #[.int .i64 x, .int .i64 y])
    (h : ∀ g w', Hid (SpansIn w' (some ⟨g, 0, none⟩) [(x, y)]) → Below w.heap.size w w' → K (a.put (some d) (.slice (some ⟨g, 0, none⟩) 1 1)) w') : Oper.wp Tryd.prog o a w K Q := by
  unfold Oper.wp execOp
  simp only [ho, List.map_toArray, List.map_cons, List.map_nil, hv, Sem.run_bind, Sem.run_pure, Result.andThen_ok, run_one]
  rw [Oper.upon_value, hd]
  exact h _ _ (Lib.hid (one_in w x y _)) ((Below.refl _ _).alloc (Nat.le_refl _) _)

set_option linter.unusedSimpArgs false
set_option linter.unusedVariables false
set_option maxHeartbeats 8000000 in
set_option maxRecDepth 100000 in
theorem checkDays_any (py pi pn a b pd x y : Int) (vd va : Value) (N M : Nat) (Q : Int → Bool) (cr : Bool) (w : World) (ha : in64 a) (hb : in64 b) (hd : IsSet w N (fun d => hasB [(x, y)] d) vd) (hq : IsSet w M Q va) (hN : N ≤ 10000) (hM : M ≤ 10000)
    (hcr : cr = true ↔ ∃ d, (hasB [(x, y)] d && Q d) = true) :
    Calls Tryd.prog 10 #[.agg #[.int .i64 py, .int .i64 pi, .int .i64 pn, .int .i64 a, .int .i64 b, .int .i64 pd], vd, va] w fun e w' => e = .returned (.int .i64 (chkE a b x y cr)) ∧ Below w.heap.size w w' := by
  obtain ⟨K, p, c, e1, -⟩ := id hd
  obtain ⟨K', p', c', e2, -⟩ := id hq
  subst e1 e2
  obtain ⟨W0, hW0⟩ : ∃ W0, W0 = ((w.alloc (.cells #[.int .i64 py, .int .i64 pi, .int .i64 pn, .int .i64 a, .int .i64 b, .int .i64 pd] 36)).alloc (.cells #[.slice p K.length c] 50)).alloc (.cells #[.slice p' K'.length c'] 50) := ⟨_, rfl⟩
  have hb0 : Below w.heap.size w W0 := by rw [hW0]; exact (((Below.refl w.heap.size w).alloc (Nat.le_refl _) _).alloc (by simp) _).alloc (by simp; omega) _
  have hz0 : W0.heap.size = w.heap.size + 3 := by rw [hW0]; simp
  have hz1 : (w.alloc (.cells #[.int .i64 py, .int .i64 pi, .int .i64 pn, .int .i64 a, .int .i64 b, .int .i64 pd] 36)).heap.size = w.heap.size + 1 := by simp
  have hz2 : ((w.alloc (.cells #[.int .i64 py, .int .i64 pi, .int .i64 pn, .int .i64 a, .int .i64 b, .int .i64 pd] 36)).alloc (.cells #[.slice p K.length c] 50)).heap.size = w.heap.size + 1 + 1 := by simp
  have u3 : W0.cell? ⟨w.heap.size, 3, none⟩ = some (.int .i64 a) := by
    rw [hW0, World.cell?_alloc_lt _ _ _ (by simp; omega), World.cell?_alloc_lt _ _ _ (by simp), World.cell?_alloc_new]; rfl
  have u4 : W0.cell? ⟨w.heap.size, 4, none⟩ = some (.int .i64 b) := by
    rw [hW0, World.cell?_alloc_lt _ _ _ (by simp; omega), World.cell?_alloc_lt _ _ _ (by simp), World.cell?_alloc_new]; rfl
  have u5 : W0.cell? ⟨w.heap.size + 1, 0, none⟩ = some (.slice p K.length c) := by
    rw [hW0, World.cell?_alloc_lt _ _ _ (by simp), ← hz1, World.cell?_alloc_new]; rfl
  have u6 : W0.cell? ⟨w.heap.size + 1 + 1, 0, none⟩ = some (.slice p' K'.length c') := by
    rw [hW0, ← hz2, World.cell?_alloc_new]; rfl
  have hd0 := hd.below hb0 (Nat.le_refl _)
  have hq0 := hq.below hb0 (Nat.le_refl _)
  have KP : Hid (∀ w', Below W0.heap.size W0 w' → (w'.cell? ⟨w.heap.size, 3, none⟩ = some (.int .i64 a) ∧ w'.cell? ⟨w.heap.size, 4, none⟩ = some (.int .i64 b) ∧ w'.cell? ⟨w.heap.size + 1, 0, none⟩ = some (.slice p K.length c) ∧ w'.cell? ⟨w.heap.size + 1 + 1, 0, none⟩ = some (.slice p' K'.length c')) ∧ Below W0.heap.size W0 w') :=
    Lib.hid (fun w' h => ⟨⟨stay h u3, stay h u4, stay h u5, stay h u6⟩, h⟩)
  have HD : Hid (∀ W, Below W0.heap.size W0 W → Calls Tryd.prog 24 #[.agg #[.slice p K.length c]] W fun e w' => ∃ r : Int, e = .returned (.int .i64 r) ∧ 0 ≤ r ∧ r ≤ 4611686018427387904 ∧ (r = 0 ↔ y ≤ x) ∧ Below W.heap.size W w') := Lib.hid (fun W hW => (DaysE (hd0.below hW (Nat.le_refl _)) (by omega)).mono (by
    rintro e w' ⟨r, rfl, r0, r1, hr, hbb⟩
    refine ⟨r, rfl, r0, r1, hr.trans ⟨fun h => ?_, fun h d => ?_⟩, hbb⟩
    · have := h x
      by_cases hlt : x < y
      · rw [(one_has x y x).2 ⟨by omega, hlt⟩] at this; cases this
      · omega
    · cases hh : hasB [(x, y)] d with
      | false => rfl
      | true => have := (one_has x y d).1 hh; omega))
  have HL := Lib.hid (fun W => Sp.Length_any a b W ha hb)
  have HO : Hid (∀ g W, SpansIn W (some ⟨g, 0, none⟩) [(a, b)] → Calls Tryd.prog 9 #[.slice (some ⟨g, 0, none⟩) 1 1] W (SetPost 2 (fun d => hasB [(a, b)] d) W)) := Lib.hid (fun g W h => OfOne _ _ a b W ha hb h)
  have HA : Hid (∀ W v bb, Below W0.heap.size W0 W → IsSet W 2 (fun d => hasB [(a, b)] d) v → (bb = true ↔ ∃ d, (hasB [(x, y)] d && !hasB [(a, b)] d) = true) → Calls Tryd.prog 25 #[.func (.func 26) #[.agg #[.slice p K.length c]] #[], v] W fun e w' => e = .returned (.bool bb) ∧ Below W.heap.size W w') :=
    Lib.hid (fun W v bb h hv hbb => hasMinus bb (hd0.below h (Nat.le_refl _)) hv hN (by omega) hbb)
  have HB : Hid (∀ W, Below W0.heap.size W0 W → Calls Tryd.prog 25 #[.func (.func 28) #[.agg #[.slice p K.length c]] #[], .agg #[.slice p' K'.length c']] W fun e w' => e = .returned (.bool cr) ∧ Below W.heap.size W w') :=
    Lib.hid (fun W h => hasMeet cr (hd0.below h (Nat.le_refl _)) (hq0.below h (Nat.le_refl _)) hN hM hcr)
  have hkW := KP.out W0 (Below.refl _ _)
  clear hd hq hd0 hq0 hcr u3 u4 u5 u6 hz1 hz2
  obtain ⟨⟨u3, u4, u5, u6⟩, -⟩ := hkW
  have hLk : Sp.cut62 (Sp.lenS (a, b)) = if b ≤ a then 0 else if 4611686018427387904 < b - a then 4611686018427387904 else b - a := by
    unfold Sp.cut62 Sp.lenS
    dsimp only
    repeat' split
    all_goals omega
  generalize Sp.cut62 (Sp.lenS (a, b)) = L at HL hLk
  by_cases c1 : y ≤ x
  · rw [show chkE a b x y cr = 24 by unfold chkE; rw [if_pos (.inl c1)]]
    clear HA HO HL HB
    go_enter Tryd.func10, Tryd.ntmps10
    go_wp2
    rw [← hW0]
    clear hW0
    refine wp_region_held_drew (S := fun w' => (w'.cell? ⟨w.heap.size, 3, none⟩ = some (.int .i64 a) ∧ w'.cell? ⟨w.heap.size, 4, none⟩ = some (.int .i64 b) ∧ w'.cell? ⟨w.heap.size + 1, 0, none⟩ = some (.slice p K.length c) ∧ w'.cell? ⟨w.heap.size + 1 + 1, 0, none⟩ = some (.slice p' K'.length c')) ∧ Below W0.heap.size W0 w') (by kernel_rfl) (KP.out _ (Below.refl _ _).drew) (fun hHeld => ?_)
    refine wpAnyH_take (i := 0) (oi := _) (v := ?_) rfl (by kernel_rfl) (by kernel_rfl) (by kernel_rfl) (fun _ _ _ h => h) (Or.inl ⟨by kernel_rfl, ?_⟩) (by assumption) ?_
    rotate_left 1
    · intro w hSw
      (try dsimp only at hSw)
      go_simp
      all_goals (with_reducible rfl)
    try simp only [Act.put, List.setIfInBounds_toArray, List.set_cons_zero, List.set_cons_succ]
    refine wpAnyH_ready (rs := [1]) (by kernel_rfl) (by simp) ?_
    refine AllReadyH.cons (o := _) rfl (fun K hK => ?_) AllReadyH.nil
    go_simp
    go_at_call 24
    refine (HD.out _ ((Below.refl _ _).drew)).mono ?_
    rintro e w1 ⟨r, rfl, r0, r1, hr, hb1⟩
    have hk1 : Below W0.heap.size W0 w1 := s_call hb1 (Below.refl _ _).drew
    obtain rfl : r = 0 := hr.2 c1
    refine hK.out _ _ (KP.out _ hk1) (fun hHeld => ?_)
    clear hK K
    try simp only [Act.put, List.setIfInBounds_toArray, List.set_cons_zero, List.set_cons_succ]
    refine wpAnyH_take (i := 2) (oi := _) (v := ?_) rfl (by kernel_rfl) (by kernel_rfl) (by kernel_rfl) (fun _ _ _ h => h) (Or.inl ⟨by kernel_rfl, ?_⟩) (by assumption) ?_
    rotate_left 1
    · intro w hSw
      (try dsimp only at hSw)
      go_simp
      all_goals (with_reducible rfl)
    try simp only [Act.put, List.setIfInBounds_toArray, List.set_cons_zero, List.set_cons_succ]
    refine wpAnyH_take (i := 3) (oi := _) (v := ?_) rfl (by kernel_rfl) (by kernel_rfl) (by kernel_rfl) (fun _ _ _ h => h) (Or.inl ⟨by kernel_rfl, ?_⟩) (by assumption) ?_
    rotate_left 1
    · intro w hSw
      (try dsimp only at hSw)
      go_simp
      all_goals (with_reducible rfl)
    try simp only [Act.put, List.setIfInBounds_toArray, List.set_cons_zero, List.set_cons_succ]
    refine wpAnyH_take (i := 4) (oi := _) (v := undef) rfl (by kernel_rfl) (by kernel_rfl) (by kernel_rfl) (fun _ _ _ h => h) (Or.inr ⟨by kernel_rfl, rfl⟩) (by assumption) ?_
    try simp only [Act.put, List.setIfInBounds_toArray, List.set_cons_zero, List.set_cons_succ]
    refine wpAnyH_take (i := 5) (oi := _) (v := undef) rfl (by kernel_rfl) (by kernel_rfl) (by kernel_rfl) (fun _ _ _ h => h) (Or.inr ⟨by kernel_rfl, rfl⟩) (by assumption) ?_
    try simp only [Act.put, List.setIfInBounds_toArray, List.set_cons_zero, List.set_cons_succ]
    refine wpAnyH_take (i := 6) (oi := _) (v := undef) rfl (by kernel_rfl) (by kernel_rfl) (by kernel_rfl) (fun _ _ _ h => h) (Or.inr ⟨by kernel_rfl, rfl⟩) (by assumption) ?_
    try simp only [Act.put, List.setIfInBounds_toArray, List.set_cons_zero, List.set_cons_succ]
    refine wpAnyH_take (i := 7) (oi := _) (v := undef) rfl (by kernel_rfl) (by kernel_rfl) (by kernel_rfl) (fun _ _ _ h => h) (Or.inr ⟨by kernel_rfl, rfl⟩) (by assumption) ?_
    try simp only [Act.put, List.setIfInBounds_toArray, List.set_cons_zero, List.set_cons_succ]
    refine wpAnyH_take (i := 8) (oi := _) (v := undef) rfl (by kernel_rfl) (by kernel_rfl) (by kernel_rfl) (fun _ _ _ h => h) (Or.inr ⟨by kernel_rfl, rfl⟩) (by assumption) ?_
    try simp only [Act.put, List.setIfInBounds_toArray, List.set_cons_zero, List.set_cons_succ]
    refine wpAnyH_take (i := 9) (oi := _) (v := undef) rfl (by kernel_rfl) (by kernel_rfl) (by kernel_rfl) (fun _ _ _ h => h) (Or.inr ⟨by kernel_rfl, rfl⟩) (by assumption) ?_
    try simp only [Act.put, List.setIfInBounds_toArray, List.set_cons_zero, List.set_cons_succ]
    refine wpAnyH_take (i := 10) (oi := _) (v := undef) rfl (by kernel_rfl) (by kernel_rfl) (by kernel_rfl) (fun _ _ _ h => h) (Or.inr ⟨by kernel_rfl, rfl⟩) (by assumption) ?_
    try simp only [Act.put, List.setIfInBounds_toArray, List.set_cons_zero, List.set_cons_succ]
    refine wpAnyH_take (i := 11) (oi := _) (v := ?_) rfl (by kernel_rfl) (by kernel_rfl) (by kernel_rfl) (fun _ _ _ h => h) (Or.inl ⟨by kernel_rfl, ?_⟩) (by assumption) ?_
    rotate_left 1
    · intro w hSw
      (try dsimp only at hSw)
      go_simp
      all_goals (with_reducible rfl)
    try simp only [Act.put, List.setIfInBounds_toArray, List.set_cons_zero, List.set_cons_succ]
    refine wpAnyH_take (i := 12) (oi := _) (v := ?_) rfl (by kernel_rfl) (by kernel_rfl) (by kernel_rfl) (fun _ _ _ h => h) (Or.inl ⟨by kernel_rfl, ?_⟩) (by assumption) ?_
    rotate_left 1
    · intro w hSw
      (try dsimp only at hSw)
      go_simp
      all_goals (with_reducible rfl)
    try simp only [Act.put, List.setIfInBounds_toArray, List.set_cons_zero, List.set_cons_succ]
    refine wpAnyH_take (i := 13) (oi := _) (v := undef) rfl (by kernel_rfl) (by kernel_rfl) (by kernel_rfl) (fun _ _ _ h => h) (Or.inr ⟨by kernel_rfl, rfl⟩) (by assumption) ?_
    try simp only [Act.put, List.setIfInBounds_toArray, List.set_cons_zero, List.set_cons_succ]
    refine wpAnyH_take (i := 14) (oi := _) (v := undef) rfl (by kernel_rfl) (by kernel_rfl) (by kernel_rfl) (fun _ _ _ h => h) (Or.inr ⟨by kernel_rfl, rfl⟩) (by assumption) ?_
    try simp only [Act.put, List.setIfInBounds_toArray, List.set_cons_zero, List.set_cons_succ]
    refine wpAnyH_take (i := 15) (oi := _) (v := undef) rfl (by kernel_rfl) (by kernel_rfl) (by kernel_rfl) (fun _ _ _ h => h) (Or.inr ⟨by kernel_rfl, rfl⟩) (by assumption) ?_
    try simp only [Act.put, List.setIfInBounds_toArray, List.set_cons_zero, List.set_cons_succ]
    refine wpAnyH_take (i := 16) (oi := _) (v := undef) rfl (by kernel_rfl) (by kernel_rfl) (by kernel_rfl) (fun _ _ _ h => h) (Or.inr ⟨by kernel_rfl, rfl⟩) (by assumption) ?_
    try simp only [Act.put, List.setIfInBounds_toArray, List.set_cons_zero, List.set_cons_succ]
    refine wpAnyH_take (i := 17) (oi := _) (v := ?_) rfl (by kernel_rfl) (by kernel_rfl) (by kernel_rfl) (fun _ _ _ h => h) (Or.inl ⟨by kernel_rfl, ?_⟩) (by assumption) ?_
    rotate_left 1
    · intro w hSw
      (try dsimp only at hSw)
      go_simp
      all_goals (with_reducible rfl)
    try simp only [Act.put, List.setIfInBounds_toArray, List.set_cons_zero, List.set_cons_succ]
    refine wpAnyH_take (i := 18) (oi := _) (v := ?_) rfl (by kernel_rfl) (by kernel_rfl) (by kernel_rfl) (fun _ _ _ h => h) (Or.inl ⟨by kernel_rfl, ?_⟩) (by assumption) ?_
    rotate_left 1
    · intro w hSw
      (try dsimp only at hSw)
      go_simp
      all_goals (with_reducible rfl)
    try simp only [Act.put, List.setIfInBounds_toArray, List.set_cons_zero, List.set_cons_succ]
    refine wpAnyH_done (by kernel_rfl) ?_ _
    try simp only [Act.put, List.getElem_toArray, List.getElem_cons_succ, List.getElem_cons_zero, List.setIfInBounds_toArray, List.set_cons_zero, List.set_cons_succ]
    go_wp2
    go_ret
    exact ⟨rfl, hb0.trans (hk1.mono hb0.size)⟩
  obtain ⟨bb, hbb'⟩ : ∃ bb, bb = decide (x < a ∨ b < y) := ⟨_, rfl⟩
  have hbb : Hid (bb = true ↔ ∃ d, (hasB [(x, y)] d && !hasB [(a, b)] d) = true) := Lib.hid (by
    rw [hbb', decide_eq_true_iff]
    constructor
    · rintro (h | h)
      · refine ⟨x, ?_⟩
        rw [(one_has x y x).2 ⟨by omega, by omega⟩]
        cases hh : hasB [(a, b)] x with
        | false => rfl
        | true => have := (one_has a b x).1 hh; omega
      · refine ⟨y - 1, ?_⟩
        rw [(one_has x y (y - 1)).2 ⟨by omega, by omega⟩]
        cases hh : hasB [(a, b)] (y - 1) with
        | false => rfl
        | true => have := (one_has a b (y - 1)).1 hh; omega
    · rintro ⟨d, hd⟩
      simp only [Bool.and_eq_true, Bool.not_eq_true'] at hd
      have h1 := (one_has x y d).1 hd.1
      by_cases h2 : x < a ∨ b < y
      · exact h2
      · rw [(one_has a b d).2 ⟨by omega, by omega⟩] at hd; cases hd.2)
  by_cases c2 : x < a ∨ b < y
  · have hbt : bb = true := by rw [hbb']; exact decide_eq_true c2
    rw [show chkE a b x y cr = 24 by unfold chkE; rw [if_pos (by omega)]]
    clear hbb' HL HB hLk
    go_enter Tryd.func10, Tryd.ntmps10
    go_wp2
    rw [← hW0]
    clear hW0
    refine wp_region_held_drew (S := fun w' => (w'.cell? ⟨w.heap.size, 3, none⟩ = some (.int .i64 a) ∧ w'.cell? ⟨w.heap.size, 4, none⟩ = some (.int .i64 b) ∧ w'.cell? ⟨w.heap.size + 1, 0, none⟩ = some (.slice p K.length c) ∧ w'.cell? ⟨w.heap.size + 1 + 1, 0, none⟩ = some (.slice p' K'.length c')) ∧ Below W0.heap.size W0 w') (by kernel_rfl) (KP.out _ (Below.refl _ _).drew) (fun hHeld => ?_)
    refine wpAnyH_take (i := 0) (oi := _) (v := ?_) rfl (by kernel_rfl) (by kernel_rfl) (by kernel_rfl) (fun _ _ _ h => h) (Or.inl ⟨by kernel_rfl, ?_⟩) (by assumption) ?_
    rotate_left 1
    · intro w hSw
      (try dsimp only at hSw)
      go_simp
      all_goals (with_reducible rfl)
    try simp only [Act.put, List.setIfInBounds_toArray, List.set_cons_zero, List.set_cons_succ]
    refine wpAnyH_ready (rs := [1]) (by kernel_rfl) (by simp) ?_
    refine AllReadyH.cons (o := _) rfl (fun K hK => ?_) AllReadyH.nil
    go_simp
    go_at_call 24
    refine (HD.out _ ((Below.refl _ _).drew)).mono ?_
    rintro e w1 ⟨r, rfl, r0, r1, hr, hb1⟩
    have hk1 : Below W0.heap.size W0 w1 := s_call hb1 (Below.refl _ _).drew
    have hr0 : (r == 0) = false := by rw [beq_eq_false_iff_ne]; intro h0; have := hr.1 h0; omega
    clear hr
    refine hK.out _ _ (KP.out _ hk1) (fun hHeld => ?_)
    clear hK K
    try simp only [Act.put, List.setIfInBounds_toArray, List.set_cons_zero, List.set_cons_succ]
    refine wpAnyH_take (i := 2) (oi := _) (v := ?_) rfl (by kernel_rfl) (by kernel_rfl) (by kernel_rfl) (fun _ _ _ h => h) (Or.inl ⟨by kernel_rfl, ?_⟩) (by assumption) ?_
    rotate_left 1
    · intro w hSw
      (try dsimp only at hSw)
      go_simp
      all_goals (with_reducible rfl)
    try simp only [Act.put, List.setIfInBounds_toArray, List.set_cons_zero, List.set_cons_succ]
    refine wpAnyH_take (i := 3) (oi := _) (v := ?_) rfl (by kernel_rfl) (by kernel_rfl) (by kernel_rfl) (fun _ _ _ h => h) (Or.inl ⟨by kernel_rfl, ?_⟩) (by assumption) ?_
    rotate_left 1
    · intro w hSw
      (try dsimp only at hSw)
      go_simp
      all_goals (with_reducible rfl)
    try simp only [Act.put, List.setIfInBounds_toArray, List.set_cons_zero, List.set_cons_succ]
    refine wpAnyH_take (i := 4) (oi := _) (v := ?_) rfl (by kernel_rfl) (by kernel_rfl) (by kernel_rfl) (fun _ _ _ h => h) (Or.inl ⟨by kernel_rfl, ?_⟩) (by assumption) ?_
    rotate_left 1
    · intro w hSw
      (try dsimp only at hSw)
      go_simp
      all_goals (with_reducible rfl)
    try simp only [Act.put, List.setIfInBounds_toArray, List.set_cons_zero, List.set_cons_succ]
    refine wpAnyH_take (i := 5) (oi := _) (v := ?_) rfl (by kernel_rfl) (by kernel_rfl) (by kernel_rfl) (fun _ _ _ h => h) (Or.inl ⟨by kernel_rfl, ?_⟩) (by assumption) ?_
    rotate_left 1
    · intro w hSw
      (try dsimp only at hSw)
      go_simp
      all_goals (with_reducible rfl)
    try simp only [Act.put, List.setIfInBounds_toArray, List.set_cons_zero, List.set_cons_succ]
    refine wpAnyH_take (i := 6) (oi := _) (v := ?_) rfl (by kernel_rfl) (by kernel_rfl) (by kernel_rfl) (fun _ _ _ h => h) (Or.inl ⟨by kernel_rfl, ?_⟩) (by assumption) ?_
    rotate_left 1
    · intro w hSw
      (try dsimp only at hSw)
      go_simp
      all_goals (with_reducible rfl)
    try simp only [Act.put, List.setIfInBounds_toArray, List.set_cons_zero, List.set_cons_succ]
    refine wpAnyH_take (i := 7) (oi := _) (v := ?_) rfl (by kernel_rfl) (by kernel_rfl) (by kernel_rfl) (fun _ _ _ h => h) (Or.inl ⟨by kernel_rfl, ?_⟩) (by assumption) ?_
    rotate_left 1
    · intro w hSw
      (try dsimp only at hSw)
      go_simp
      all_goals (with_reducible rfl)
    try simp only [Act.put, List.setIfInBounds_toArray, List.set_cons_zero, List.set_cons_succ]
    refine wpAnyH_ready (rs := [8]) (by kernel_rfl) (by simp) ?_
    refine AllReadyH.cons (o := _) rfl (fun K hK => ?_) AllReadyH.nil
    refine want (by kernel_rfl) ?_
    refine opOne _ _ a b rfl rfl (by kernel_rfl) ?_
    intro g w2 hs2 hb2
    have hk2 : Below W0.heap.size W0 w2 := s_call hb2 hk1
    refine hK.out _ _ (KP.out _ hk2) (fun hHeld => ?_)
    clear hK K
    try simp only [Act.put, List.setIfInBounds_toArray, List.set_cons_zero, List.set_cons_succ]
    refine wpAnyH_ready (rs := [9]) (by kernel_rfl) (by simp) ?_
    refine AllReadyH.cons (o := _) rfl (fun K hK => ?_) AllReadyH.nil
    go_simp
    go_at_call 9
    refine (HO.out _ _ hs2.out).mono ?_
    rintro e w3 ⟨v3, rfl, hset3, hb3, -⟩
    have hk3 : Below W0.heap.size W0 w3 := s_call hb3 hk2
    have HA3 := Lib.hid (HA.out w3 v3 bb hk3 hset3 hbb.out)
    clear hset3
    refine hK.out _ _ (KP.out _ hk3) (fun hHeld => ?_)
    clear hK K
    try simp only [Act.put, List.setIfInBounds_toArray, List.set_cons_zero, List.set_cons_succ]
    refine wpAnyH_ready (rs := [10]) (by kernel_rfl) (by simp) ?_
    refine AllReadyH.cons (o := _) rfl (fun K hK => ?_) AllReadyH.nil
    go_simp
    go_at_call 25
    refine HA3.out.mono ?_
    rintro e w4 ⟨rfl, hb4⟩
    have hk4 : Below W0.heap.size W0 w4 := s_call hb4 hk3
    clear HA3
    refine hK.out _ _ (KP.out _ hk4) (fun hHeld => ?_)
    clear hK K
    try simp only [Act.put, List.setIfInBounds_toArray, List.set_cons_zero, List.set_cons_succ]
    subst hbt
    refine wpAnyH_take (i := 11) (oi := _) (v := ?_) rfl (by kernel_rfl) (by kernel_rfl) (by kernel_rfl) (fun _ _ _ h => h) (Or.inl ⟨by kernel_rfl, ?_⟩) (by assumption) ?_
    rotate_left 1
    · intro w hSw
      (try dsimp only at hSw)
      go_simp
      all_goals (with_reducible rfl)
    try simp only [Act.put, List.setIfInBounds_toArray, List.set_cons_zero, List.set_cons_succ]
    refine wpAnyH_take (i := 12) (oi := _) (v := ?_) rfl (by kernel_rfl) (by kernel_rfl) (by kernel_rfl) (fun _ _ _ h => h) (Or.inl ⟨by kernel_rfl, ?_⟩) (by assumption) ?_
    rotate_left 1
    · intro w hSw
      (try dsimp only at hSw)
      go_simp
      all_goals (with_reducible rfl)
    try simp only [Act.put, List.setIfInBounds_toArray, List.set_cons_zero, List.set_cons_succ]
    refine wpAnyH_take (i := 13) (oi := _) (v := undef) rfl (by kernel_rfl) (by kernel_rfl) (by kernel_rfl) (fun _ _ _ h => h) (Or.inr ⟨by kernel_rfl, rfl⟩) (by assumption) ?_
    try simp only [Act.put, List.setIfInBounds_toArray, List.set_cons_zero, List.set_cons_succ]
    refine wpAnyH_take (i := 14) (oi := _) (v := undef) rfl (by kernel_rfl) (by kernel_rfl) (by kernel_rfl) (fun _ _ _ h => h) (Or.inr ⟨by kernel_rfl, rfl⟩) (by assumption) ?_
    try simp only [Act.put, List.setIfInBounds_toArray, List.set_cons_zero, List.set_cons_succ]
    refine wpAnyH_take (i := 15) (oi := _) (v := undef) rfl (by kernel_rfl) (by kernel_rfl) (by kernel_rfl) (fun _ _ _ h => h) (Or.inr ⟨by kernel_rfl, rfl⟩) (by assumption) ?_
    try simp only [Act.put, List.setIfInBounds_toArray, List.set_cons_zero, List.set_cons_succ]
    refine wpAnyH_take (i := 16) (oi := _) (v := undef) rfl (by kernel_rfl) (by kernel_rfl) (by kernel_rfl) (fun _ _ _ h => h) (Or.inr ⟨by kernel_rfl, rfl⟩) (by assumption) ?_
    try simp only [Act.put, List.setIfInBounds_toArray, List.set_cons_zero, List.set_cons_succ]
    refine wpAnyH_take (i := 17) (oi := _) (v := ?_) rfl (by kernel_rfl) (by kernel_rfl) (by kernel_rfl) (fun _ _ _ h => h) (Or.inl ⟨by kernel_rfl, ?_⟩) (by assumption) ?_
    rotate_left 1
    · intro w hSw
      (try dsimp only at hSw)
      go_simp
      all_goals (with_reducible rfl)
    try simp only [Act.put, List.setIfInBounds_toArray, List.set_cons_zero, List.set_cons_succ]
    refine wpAnyH_take (i := 18) (oi := _) (v := ?_) rfl (by kernel_rfl) (by kernel_rfl) (by kernel_rfl) (fun _ _ _ h => h) (Or.inl ⟨by kernel_rfl, ?_⟩) (by assumption) ?_
    rotate_left 1
    · intro w hSw
      (try dsimp only at hSw)
      go_simp
      all_goals (with_reducible rfl)
    try simp only [Act.put, List.setIfInBounds_toArray, List.set_cons_zero, List.set_cons_succ]
    refine wpAnyH_done (by kernel_rfl) ?_ _
    try simp only [Act.put, List.getElem_toArray, List.getElem_cons_succ, List.getElem_cons_zero, List.setIfInBounds_toArray, List.set_cons_zero, List.set_cons_succ]
    go_wp2
    go_ret
    exact ⟨rfl, hb0.trans (hk4.mono hb0.size)⟩
  have hbf : bb = false := by rw [hbb']; exact decide_eq_false c2
  clear hbb'
  by_cases c3 : 366 < b - a
  · rw [show chkE a b x y cr = 24 by unfold chkE; rw [if_pos (by omega)]]
    have c4 : 366 < L := by rw [hLk]; repeat' split
                            all_goals omega
    clear HB hLk
    go_enter Tryd.func10, Tryd.ntmps10
    go_wp2
    rw [← hW0]
    clear hW0
    refine wp_region_held_drew (S := fun w' => (w'.cell? ⟨w.heap.size, 3, none⟩ = some (.int .i64 a) ∧ w'.cell? ⟨w.heap.size, 4, none⟩ = some (.int .i64 b) ∧ w'.cell? ⟨w.heap.size + 1, 0, none⟩ = some (.slice p K.length c) ∧ w'.cell? ⟨w.heap.size + 1 + 1, 0, none⟩ = some (.slice p' K'.length c')) ∧ Below W0.heap.size W0 w') (by kernel_rfl) (KP.out _ (Below.refl _ _).drew) (fun hHeld => ?_)
    refine wpAnyH_take (i := 0) (oi := _) (v := ?_) rfl (by kernel_rfl) (by kernel_rfl) (by kernel_rfl) (fun _ _ _ h => h) (Or.inl ⟨by kernel_rfl, ?_⟩) (by assumption) ?_
    rotate_left 1
    · intro w hSw
      (try dsimp only at hSw)
      go_simp
      all_goals (with_reducible rfl)
    try simp only [Act.put, List.setIfInBounds_toArray, List.set_cons_zero, List.set_cons_succ]
    refine wpAnyH_ready (rs := [1]) (by kernel_rfl) (by simp) ?_
    refine AllReadyH.cons (o := _) rfl (fun K hK => ?_) AllReadyH.nil
    go_simp
    go_at_call 24
    refine (HD.out _ ((Below.refl _ _).drew)).mono ?_
    rintro e w1 ⟨r, rfl, r0, r1, hr, hb1⟩
    have hk1 : Below W0.heap.size W0 w1 := s_call hb1 (Below.refl _ _).drew
    have hr0 : (r == 0) = false := by rw [beq_eq_false_iff_ne]; intro h0; have := hr.1 h0; omega
    clear hr
    refine hK.out _ _ (KP.out _ hk1) (fun hHeld => ?_)
    clear hK K
    try simp only [Act.put, List.setIfInBounds_toArray, List.set_cons_zero, List.set_cons_succ]
    refine wpAnyH_take (i := 2) (oi := _) (v := ?_) rfl (by kernel_rfl) (by kernel_rfl) (by kernel_rfl) (fun _ _ _ h => h) (Or.inl ⟨by kernel_rfl, ?_⟩) (by assumption) ?_
    rotate_left 1
    · intro w hSw
      (try dsimp only at hSw)
      go_simp
      all_goals (with_reducible rfl)
    try simp only [Act.put, List.setIfInBounds_toArray, List.set_cons_zero, List.set_cons_succ]
    refine wpAnyH_take (i := 3) (oi := _) (v := ?_) rfl (by kernel_rfl) (by kernel_rfl) (by kernel_rfl) (fun _ _ _ h => h) (Or.inl ⟨by kernel_rfl, ?_⟩) (by assumption) ?_
    rotate_left 1
    · intro w hSw
      (try dsimp only at hSw)
      go_simp
      all_goals (with_reducible rfl)
    try simp only [Act.put, List.setIfInBounds_toArray, List.set_cons_zero, List.set_cons_succ]
    refine wpAnyH_take (i := 4) (oi := _) (v := ?_) rfl (by kernel_rfl) (by kernel_rfl) (by kernel_rfl) (fun _ _ _ h => h) (Or.inl ⟨by kernel_rfl, ?_⟩) (by assumption) ?_
    rotate_left 1
    · intro w hSw
      (try dsimp only at hSw)
      go_simp
      all_goals (with_reducible rfl)
    try simp only [Act.put, List.setIfInBounds_toArray, List.set_cons_zero, List.set_cons_succ]
    refine wpAnyH_take (i := 5) (oi := _) (v := ?_) rfl (by kernel_rfl) (by kernel_rfl) (by kernel_rfl) (fun _ _ _ h => h) (Or.inl ⟨by kernel_rfl, ?_⟩) (by assumption) ?_
    rotate_left 1
    · intro w hSw
      (try dsimp only at hSw)
      go_simp
      all_goals (with_reducible rfl)
    try simp only [Act.put, List.setIfInBounds_toArray, List.set_cons_zero, List.set_cons_succ]
    refine wpAnyH_take (i := 6) (oi := _) (v := ?_) rfl (by kernel_rfl) (by kernel_rfl) (by kernel_rfl) (fun _ _ _ h => h) (Or.inl ⟨by kernel_rfl, ?_⟩) (by assumption) ?_
    rotate_left 1
    · intro w hSw
      (try dsimp only at hSw)
      go_simp
      all_goals (with_reducible rfl)
    try simp only [Act.put, List.setIfInBounds_toArray, List.set_cons_zero, List.set_cons_succ]
    refine wpAnyH_take (i := 7) (oi := _) (v := ?_) rfl (by kernel_rfl) (by kernel_rfl) (by kernel_rfl) (fun _ _ _ h => h) (Or.inl ⟨by kernel_rfl, ?_⟩) (by assumption) ?_
    rotate_left 1
    · intro w hSw
      (try dsimp only at hSw)
      go_simp
      all_goals (with_reducible rfl)
    try simp only [Act.put, List.setIfInBounds_toArray, List.set_cons_zero, List.set_cons_succ]
    refine wpAnyH_ready (rs := [8]) (by kernel_rfl) (by simp) ?_
    refine AllReadyH.cons (o := _) rfl (fun K hK => ?_) AllReadyH.nil
    refine want (by kernel_rfl) ?_
    refine opOne _ _ a b rfl rfl (by kernel_rfl) ?_
    intro g w2 hs2 hb2
    have hk2 : Below W0.heap.size W0 w2 := s_call hb2 hk1
    refine hK.out _ _ (KP.out _ hk2) (fun hHeld => ?_)
    clear hK K
    try simp only [Act.put, List.setIfInBounds_toArray, List.set_cons_zero, List.set_cons_succ]
    refine wpAnyH_ready (rs := [9]) (by kernel_rfl) (by simp) ?_
    refine AllReadyH.cons (o := _) rfl (fun K hK => ?_) AllReadyH.nil
    go_simp
    go_at_call 9
    refine (HO.out _ _ hs2.out).mono ?_
    rintro e w3 ⟨v3, rfl, hset3, hb3, -⟩
    have hk3 : Below W0.heap.size W0 w3 := s_call hb3 hk2
    have HA3 := Lib.hid (HA.out w3 v3 bb hk3 hset3 hbb.out)
    clear hset3
    refine hK.out _ _ (KP.out _ hk3) (fun hHeld => ?_)
    clear hK K
    try simp only [Act.put, List.setIfInBounds_toArray, List.set_cons_zero, List.set_cons_succ]
    refine wpAnyH_ready (rs := [10]) (by kernel_rfl) (by simp) ?_
    refine AllReadyH.cons (o := _) rfl (fun K hK => ?_) AllReadyH.nil
    go_simp
    go_at_call 25
    refine HA3.out.mono ?_
    rintro e w4 ⟨rfl, hb4⟩
    have hk4 : Below W0.heap.size W0 w4 := s_call hb4 hk3
    clear HA3
    refine hK.out _ _ (KP.out _ hk4) (fun hHeld => ?_)
    clear hK K
    try simp only [Act.put, List.setIfInBounds_toArray, List.set_cons_zero, List.set_cons_succ]
    subst hbf
    refine wpAnyH_take (i := 11) (oi := _) (v := ?_) rfl (by kernel_rfl) (by kernel_rfl) (by kernel_rfl) (fun _ _ _ h => h) (Or.inl ⟨by kernel_rfl, ?_⟩) (by assumption) ?_
    rotate_left 1
    · intro w hSw
      (try dsimp only at hSw)
      go_simp
      all_goals (with_reducible rfl)
    try simp only [Act.put, List.setIfInBounds_toArray, List.set_cons_zero, List.set_cons_succ]
    refine wpAnyH_take (i := 12) (oi := _) (v := ?_) rfl (by kernel_rfl) (by kernel_rfl) (by kernel_rfl) (fun _ _ _ h => h) (Or.inl ⟨by kernel_rfl, ?_⟩) (by assumption) ?_
    rotate_left 1
    · intro w hSw
      (try dsimp only at hSw)
      go_simp
      all_goals (with_reducible rfl)
    try simp only [Act.put, List.setIfInBounds_toArray, List.set_cons_zero, List.set_cons_succ]
    refine wpAnyH_take (i := 13) (oi := _) (v := ?_) rfl (by kernel_rfl) (by kernel_rfl) (by kernel_rfl) (fun _ _ _ h => h) (Or.inl ⟨by kernel_rfl, ?_⟩) (by assumption) ?_
    rotate_left 1
    · intro w hSw
      (try dsimp only at hSw)
      go_simp
      all_goals (with_reducible rfl)
    try simp only [Act.put, List.setIfInBounds_toArray, List.set_cons_zero, List.set_cons_succ]
    refine wpAnyH_take (i := 14) (oi := _) (v := ?_) rfl (by kernel_rfl) (by kernel_rfl) (by kernel_rfl) (fun _ _ _ h => h) (Or.inl ⟨by kernel_rfl, ?_⟩) (by assumption) ?_
    rotate_left 1
    · intro w hSw
      (try dsimp only at hSw)
      go_simp
      all_goals (with_reducible rfl)
    try simp only [Act.put, List.setIfInBounds_toArray, List.set_cons_zero, List.set_cons_succ]
    refine wpAnyH_ready (rs := [15]) (by kernel_rfl) (by simp) ?_
    refine AllReadyH.cons (o := _) rfl (fun K hK => ?_) AllReadyH.nil
    go_simp
    go_at_call 27
    refine (HL.out _).mono ?_
    rintro e w5 ⟨rfl, hb5⟩
    have hk5 : Below W0.heap.size W0 w5 := s_call hb5 hk4
    refine hK.out _ _ (KP.out _ hk5) (fun hHeld => ?_)
    clear hK K
    try simp only [Act.put, List.setIfInBounds_toArray, List.set_cons_zero, List.set_cons_succ]
    refine wpAnyH_take (i := 16) (oi := _) (v := ?_) rfl (by kernel_rfl) (by kernel_rfl) (by kernel_rfl) (fun _ _ _ h => h) (Or.inl ⟨by kernel_rfl, ?_⟩) (by assumption) ?_
    rotate_left 1
    · intro w hSw
      (try dsimp only at hSw)
      go_simp
      all_goals (with_reducible rfl)
    try simp only [Act.put, List.setIfInBounds_toArray, List.set_cons_zero, List.set_cons_succ]
    refine wpAnyH_take (i := 17) (oi := _) (v := ?_) rfl (by kernel_rfl) (by kernel_rfl) (by kernel_rfl) (fun _ _ _ h => h) (Or.inl ⟨by kernel_rfl, ?_⟩) (by assumption) ?_
    rotate_left 1
    · intro w hSw
      (try dsimp only at hSw)
      go_simp
      all_goals (with_reducible rfl)
    try simp only [Act.put, List.setIfInBounds_toArray, List.set_cons_zero, List.set_cons_succ]
    refine wpAnyH_take (i := 18) (oi := _) (v := ?_) rfl (by kernel_rfl) (by kernel_rfl) (by kernel_rfl) (fun _ _ _ h => h) (Or.inl ⟨by kernel_rfl, ?_⟩) (by assumption) ?_
    rotate_left 1
    · intro w hSw
      (try dsimp only at hSw)
      go_simp
      all_goals (with_reducible rfl)
    try simp only [Act.put, List.setIfInBounds_toArray, List.set_cons_zero, List.set_cons_succ]
    refine wpAnyH_done (by kernel_rfl) ?_ _
    try simp only [Act.put, List.getElem_toArray, List.getElem_cons_succ, List.getElem_cons_zero, List.setIfInBounds_toArray, List.set_cons_zero, List.set_cons_succ]
    go_wp2
    go_ret
    exact ⟨rfl, hb0.trans (hk5.mono hb0.size)⟩
  · have c4 : ¬ 366 < L := by rw [hLk]; repeat' split
                              all_goals omega
    clear hLk
    rw [show chkE a b x y cr = if cr = true then 16 else 0 by unfold chkE; rw [if_neg (by omega)]]
    cases cr
    all_goals
      go_enter Tryd.func10, Tryd.ntmps10
      go_wp2
      rw [← hW0]
      clear hW0
      refine wp_region_held_drew (S := fun w' => (w'.cell? ⟨w.heap.size, 3, none⟩ = some (.int .i64 a) ∧ w'.cell? ⟨w.heap.size, 4, none⟩ = some (.int .i64 b) ∧ w'.cell? ⟨w.heap.size + 1, 0, none⟩ = some (.slice p K.length c) ∧ w'.cell? ⟨w.heap.size + 1 + 1, 0, none⟩ = some (.slice p' K'.length c')) ∧ Below W0.heap.size W0 w') (by kernel_rfl) (KP.out _ (Below.refl _ _).drew) (fun hHeld => ?_)
      refine wpAnyH_take (i := 0) (oi := _) (v := ?_) rfl (by kernel_rfl) (by kernel_rfl) (by kernel_rfl) (fun _ _ _ h => h) (Or.inl ⟨by kernel_rfl, ?_⟩) (by assumption) ?_
      rotate_left 1
      · intro w hSw
        (try dsimp only at hSw)
        go_simp
        all_goals (with_reducible rfl)
      try simp only [Act.put, List.setIfInBounds_toArray, List.set_cons_zero, List.set_cons_succ]
      refine wpAnyH_ready (rs := [1]) (by kernel_rfl) (by simp) ?_
      refine AllReadyH.cons (o := _) rfl (fun K hK => ?_) AllReadyH.nil
      go_simp
      go_at_call 24
      refine (HD.out _ ((Below.refl _ _).drew)).mono ?_
      rintro e w1 ⟨r, rfl, r0, r1, hr, hb1⟩
      have hk1 : Below W0.heap.size W0 w1 := s_call hb1 (Below.refl _ _).drew
      have hr0 : (r == 0) = false := by rw [beq_eq_false_iff_ne]; intro h0; have := hr.1 h0; omega
      clear hr
      refine hK.out _ _ (KP.out _ hk1) (fun hHeld => ?_)
      clear hK K
      try simp only [Act.put, List.setIfInBounds_toArray, List.set_cons_zero, List.set_cons_succ]
      refine wpAnyH_take (i := 2) (oi := _) (v := ?_) rfl (by kernel_rfl) (by kernel_rfl) (by kernel_rfl) (fun _ _ _ h => h) (Or.inl ⟨by kernel_rfl, ?_⟩) (by assumption) ?_
      rotate_left 1
      · intro w hSw
        (try dsimp only at hSw)
        go_simp
        all_goals (with_reducible rfl)
      try simp only [Act.put, List.setIfInBounds_toArray, List.set_cons_zero, List.set_cons_succ]
      refine wpAnyH_take (i := 3) (oi := _) (v := ?_) rfl (by kernel_rfl) (by kernel_rfl) (by kernel_rfl) (fun _ _ _ h => h) (Or.inl ⟨by kernel_rfl, ?_⟩) (by assumption) ?_
      rotate_left 1
      · intro w hSw
        (try dsimp only at hSw)
        go_simp
        all_goals (with_reducible rfl)
      try simp only [Act.put, List.setIfInBounds_toArray, List.set_cons_zero, List.set_cons_succ]
      refine wpAnyH_take (i := 4) (oi := _) (v := ?_) rfl (by kernel_rfl) (by kernel_rfl) (by kernel_rfl) (fun _ _ _ h => h) (Or.inl ⟨by kernel_rfl, ?_⟩) (by assumption) ?_
      rotate_left 1
      · intro w hSw
        (try dsimp only at hSw)
        go_simp
        all_goals (with_reducible rfl)
      try simp only [Act.put, List.setIfInBounds_toArray, List.set_cons_zero, List.set_cons_succ]
      refine wpAnyH_take (i := 5) (oi := _) (v := ?_) rfl (by kernel_rfl) (by kernel_rfl) (by kernel_rfl) (fun _ _ _ h => h) (Or.inl ⟨by kernel_rfl, ?_⟩) (by assumption) ?_
      rotate_left 1
      · intro w hSw
        (try dsimp only at hSw)
        go_simp
        all_goals (with_reducible rfl)
      try simp only [Act.put, List.setIfInBounds_toArray, List.set_cons_zero, List.set_cons_succ]
      refine wpAnyH_take (i := 6) (oi := _) (v := ?_) rfl (by kernel_rfl) (by kernel_rfl) (by kernel_rfl) (fun _ _ _ h => h) (Or.inl ⟨by kernel_rfl, ?_⟩) (by assumption) ?_
      rotate_left 1
      · intro w hSw
        (try dsimp only at hSw)
        go_simp
        all_goals (with_reducible rfl)
      try simp only [Act.put, List.setIfInBounds_toArray, List.set_cons_zero, List.set_cons_succ]
      refine wpAnyH_take (i := 7) (oi := _) (v := ?_) rfl (by kernel_rfl) (by kernel_rfl) (by kernel_rfl) (fun _ _ _ h => h) (Or.inl ⟨by kernel_rfl, ?_⟩) (by assumption) ?_
      rotate_left 1
      · intro w hSw
        (try dsimp only at hSw)
        go_simp
        all_goals (with_reducible rfl)
      try simp only [Act.put, List.setIfInBounds_toArray, List.set_cons_zero, List.set_cons_succ]
      refine wpAnyH_ready (rs := [8]) (by kernel_rfl) (by simp) ?_
      refine AllReadyH.cons (o := _) rfl (fun K hK => ?_) AllReadyH.nil
      refine want (by kernel_rfl) ?_
      refine opOne _ _ a b rfl rfl (by kernel_rfl) ?_
      intro g w2 hs2 hb2
      have hk2 : Below W0.heap.size W0 w2 := s_call hb2 hk1
      refine hK.out _ _ (KP.out _ hk2) (fun hHeld => ?_)
      clear hK K
      try simp only [Act.put, List.setIfInBounds_toArray, List.set_cons_zero, List.set_cons_succ]
      refine wpAnyH_ready (rs := [9]) (by kernel_rfl) (by simp) ?_
      refine AllReadyH.cons (o := _) rfl (fun K hK => ?_) AllReadyH.nil
      go_simp
      go_at_call 9
      refine (HO.out _ _ hs2.out).mono ?_
      rintro e w3 ⟨v3, rfl, hset3, hb3, -⟩
      have hk3 : Below W0.heap.size W0 w3 := s_call hb3 hk2
      have HA3 := Lib.hid (HA.out w3 v3 bb hk3 hset3 hbb.out)
      clear hset3
      refine hK.out _ _ (KP.out _ hk3) (fun hHeld => ?_)
      clear hK K
      try simp only [Act.put, List.setIfInBounds_toArray, List.set_cons_zero, List.set_cons_succ]
      refine wpAnyH_ready (rs := [10]) (by kernel_rfl) (by simp) ?_
      refine AllReadyH.cons (o := _) rfl (fun K hK => ?_) AllReadyH.nil
      go_simp
      go_at_call 25
      refine HA3.out.mono ?_
      rintro e w4 ⟨rfl, hb4⟩
      have hk4 : Below W0.heap.size W0 w4 := s_call hb4 hk3
      clear HA3
      refine hK.out _ _ (KP.out _ hk4) (fun hHeld => ?_)
      clear hK K
      try simp only [Act.put, List.setIfInBounds_toArray, List.set_cons_zero, List.set_cons_succ]
      subst hbf
      refine wpAnyH_take (i := 11) (oi := _) (v := ?_) rfl (by kernel_rfl) (by kernel_rfl) (by kernel_rfl) (fun _ _ _ h => h) (Or.inl ⟨by kernel_rfl, ?_⟩) (by assumption) ?_
      rotate_left 1
      · intro w hSw
        (try dsimp only at hSw)
        go_simp
        all_goals (with_reducible rfl)
      try simp only [Act.put, List.setIfInBounds_toArray, List.set_cons_zero, List.set_cons_succ]
      refine wpAnyH_take (i := 12) (oi := _) (v := ?_) rfl (by kernel_rfl) (by kernel_rfl) (by kernel_rfl) (fun _ _ _ h => h) (Or.inl ⟨by kernel_rfl, ?_⟩) (by assumption) ?_
      rotate_left 1
      · intro w hSw
        (try dsimp only at hSw)
        go_simp
        all_goals (with_reducible rfl)
      try simp only [Act.put, List.setIfInBounds_toArray, List.set_cons_zero, List.set_cons_succ]
      refine wpAnyH_take (i := 13) (oi := _) (v := ?_) rfl (by kernel_rfl) (by kernel_rfl) (by kernel_rfl) (fun _ _ _ h => h) (Or.inl ⟨by kernel_rfl, ?_⟩) (by assumption) ?_
      rotate_left 1
      · intro w hSw
        (try dsimp only at hSw)
        go_simp
        all_goals (with_reducible rfl)
      try simp only [Act.put, List.setIfInBounds_toArray, List.set_cons_zero, List.set_cons_succ]
      refine wpAnyH_take (i := 14) (oi := _) (v := ?_) rfl (by kernel_rfl) (by kernel_rfl) (by kernel_rfl) (fun _ _ _ h => h) (Or.inl ⟨by kernel_rfl, ?_⟩) (by assumption) ?_
      rotate_left 1
      · intro w hSw
        (try dsimp only at hSw)
        go_simp
        all_goals (with_reducible rfl)
      try simp only [Act.put, List.setIfInBounds_toArray, List.set_cons_zero, List.set_cons_succ]
      refine wpAnyH_ready (rs := [15]) (by kernel_rfl) (by simp) ?_
      refine AllReadyH.cons (o := _) rfl (fun K hK => ?_) AllReadyH.nil
      go_simp
      go_at_call 27
      refine (HL.out _).mono ?_
      rintro e w5 ⟨rfl, hb5⟩
      have hk5 : Below W0.heap.size W0 w5 := s_call hb5 hk4
      refine hK.out _ _ (KP.out _ hk5) (fun hHeld => ?_)
      clear hK K
      try simp only [Act.put, List.setIfInBounds_toArray, List.set_cons_zero, List.set_cons_succ]
      refine wpAnyH_take (i := 16) (oi := _) (v := ?_) rfl (by kernel_rfl) (by kernel_rfl) (by kernel_rfl) (fun _ _ _ h => h) (Or.inl ⟨by kernel_rfl, ?_⟩) (by assumption) ?_
      rotate_left 1
      · intro w hSw
        (try dsimp only at hSw)
        go_simp
        all_goals (with_reducible rfl)
      try simp only [Act.put, List.setIfInBounds_toArray, List.set_cons_zero, List.set_cons_succ]
      refine wpAnyH_take (i := 17) (oi := _) (v := ?_) rfl (by kernel_rfl) (by kernel_rfl) (by kernel_rfl) (fun _ _ _ h => h) (Or.inl ⟨by kernel_rfl, ?_⟩) (by assumption) ?_
      rotate_left 1
      · intro w hSw
        (try dsimp only at hSw)
        go_simp
        all_goals (with_reducible rfl)
      try simp only [Act.put, List.setIfInBounds_toArray, List.set_cons_zero, List.set_cons_succ]
      refine wpAnyH_take (i := 18) (oi := _) (v := ?_) rfl (by kernel_rfl) (by kernel_rfl) (by kernel_rfl) (fun _ _ _ h => h) (Or.inl ⟨by kernel_rfl, ?_⟩) (by assumption) ?_
      rotate_left 1
      · intro w hSw
        (try dsimp only at hSw)
        go_simp
        all_goals (with_reducible rfl)
      try simp only [Act.put, List.setIfInBounds_toArray, List.set_cons_zero, List.set_cons_succ]
      refine wpAnyH_done (by kernel_rfl) ?_ _
      try simp only [Act.put, List.getElem_toArray, List.getElem_cons_succ, List.getElem_cons_zero, List.setIfInBounds_toArray, List.set_cons_zero, List.set_cons_succ]
      go_wp2_with fail
      refine (HB.out _ hk5).mono ?_
      rintro e w6 ⟨rfl, hb6⟩
      have hk6 : Below W0.heap.size W0 w6 := s_call hb6 hk5
      go_wp2
      go_ret
      exact ⟨rfl, hb0.trans (hk6.mono hb0.size)⟩

end Go.Proofs.YtogdiiengbmiiaaDoor
