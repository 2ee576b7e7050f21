/-
  What is proved: the contracts of the document's is, Together and Of. Conditions: the lists' limits; the spans lie in memory.
-/
import Derived.Test.YtefcadngdcgpiaaSpR
import Derived.Test.YtefcadngdcgpiaaSpO
namespace Go.Proofs.Ytefcadngdcgpiaa
open Go Go.RowKit Go.Proofs
set_option linter.unusedVariables false

set_option maxHeartbeats 2000000 in
set_option maxRecDepth 100000 in
theorem is_any (p : Option Addr) (c : Nat) (A : List Sp) (q : Option Addr) (c' : Nat) (B : List Sp) (way d : Int) (w : World) (hA : A.length ≤ 100000) (hB : B.length ≤ 100000) (h1 : SpansIn w p A) (h2 : SpansIn w q B) (hw : way = 1 ∨ way = 2 ∨ way = 3) :
    Calls Try.prog 37 #[.slice p A.length c, .slice q B.length c', .int .i64 way, .int .i64 d] w fun e w' => e = .returned (.bool (wayB way (hasB A d) (hasB B d))) ∧ Below w.heap.size w w' := by
  have HA := Lib.hid (rAny_any p c A d w hA h1)
  have HB := Lib.hid (fun W h => rAny_any q c' B d W hB h)
  have HS := Lib.hid h2
  clear h1 h2
  generalize hasB A d = x at *
  generalize hasB B d = y at *
  rcases hw with rfl | rfl | rfl <;> cases x <;> cases y
  all_goals
    go_enter Try.func37, Try.ntmps37
    go_wp2_with fail
    refine (HA.out).mono ?_
    rintro e w2 ⟨rfl, hb2⟩
    go_wp2_with fail
    refine (HB.out _ (HS.out.below hb2 (Nat.le_refl _))).mono ?_
    rintro e w3 ⟨rfl, hb3⟩
    go_wp2
    go_ret
    exact ⟨rfl, hb2.trans (hb3.mono hb2.size)⟩

/-- The document's list as it stands in a round: the open span ends at 0 yet. -/
def outL (S : List Sp × Option Int) : List Sp := S.1 ++ (match S.2 with | none => [] | some f => [(f, 0)])
theorem outL_none (K : List Sp) : outL (K, none) = K := by simp [outL]
theorem outL_some (K : List Sp) (f : Int) : outL (K, some f) = K ++ [(f, 0)] := rfl
theorem outL_len (P : Int → Bool) (D : Nat → Int) (k : Nat) : (outL (refSt P D k)).length ≤ k := by
  obtain ⟨a, b⟩ := refSt_len P D k
  unfold outL
  cases h : (refSt P D k).2 with
  | none => simpa using a
  | some f => have := b (by rw [h]; rfl); simp; omega
/-- What Together returns. -/
def TogPost (N : Nat) (P : Int → Bool) (w : World) (e : Ending) (w' : World) : Prop :=
  ∃ (K : List Sp) (q : Option Addr) (c : Nat), e = .returned (.slice q K.length c) ∧ Canon K ∧ (∀ d, Mem K d ↔ P d = true) ∧ K.length ≤ N ∧ SpansIn w' q K ∧ Below w.heap.size w w'

set_option maxHeartbeats 4000000 in
set_option maxRecDepth 100000 in
theorem Together_any (p : Option Addr) (c : Nat) (A : List Sp) (q : Option Addr) (c' : Nat) (B : List Sp) (way : Int) (w : World) (hA : A.length ≤ 2000) (hB : B.length ≤ 2000) (h1 : SpansIn w p A) (h2 : SpansIn w q B) (hp : p = none → c = 0) (hq : q = none → c' = 0) (hw : way = 1 ∨ way = 2 ∨ way = 3) :
    Calls Try.prog 17 #[.slice p A.length c, .slice q B.length c', .int .i64 way] w (TogPost 8000 (fun d => wayB way (hasB A d) (hasB B d)) w) := by
  have hbE := (Below.refl w.heap.size w).alloc (Nat.le_refl _) (.cells #[] 39)
  have O0 := Lib.hid (World.ownsRow_made (e := 39) (size := 2) (base := w.heap.size) w #[] 0 (Nat.le_refl _) (Nat.zero_le _) (by simp))
  have P1 := Lib.hid (src_of (h1.below hbE (Nat.le_refl _)) hp)
  have P2 := Lib.hid h2
  have P3 := Lib.hid h1
  have HQ := Lib.hid hq
  obtain ⟨P, hP⟩ : ∃ P : Int → Bool, P = fun d => wayB way (hasB A d) (hasB B d) := ⟨_, rfl⟩
  have HP := Lib.hid hP
  have HIS : Hid (∀ d W, SpansIn W p A → SpansIn W q B → Calls Try.prog 37 #[.slice p A.length c, .slice q B.length c', .int .i64 way, .int .i64 d] W fun e w' => e = .returned (.bool (P d)) ∧ Below W.heap.size W w') := Lib.hid (fun d W a b => by rw [hP]; exact is_any p c A q c' B way d W (by omega) (by omega) a b hw)
  rw [← hP]
  clear h1 h2 hp hq hw hP
  go_enter Try.func17, Try.ntmps17
  go_wp2_with (at_builtin; first | (refine app_src_arm Try.underlying22 infoSpan rfl (by omega) (by omega) w.heap.size _ _ 0 [] O0.out p A.length c (spC A) (spC_len A) P1.out spC_one (by omega) (by simp) rfl _ _ rfl rfl rfl ?_; intro v6 w6 ho6 hg6; have hb6 : Below w.heap.size w w6 := hbE.grown hg6 (by simp) (fun k hk => by simp [Value.ownBlock] at hk; omega); have O6 := Lib.hid ho6; have P0e := Lib.hid (src_of (P2.out.below hb6 (Nat.le_refl _)) HQ.out); have hz6 := hb6.size; clear ho6 hg6) | (refine app_src_arm Try.underlying22 infoSpan rfl (by omega) (by omega) w.heap.size _ _ (0 + A.length) _ O6.out q B.length c' (spC B) (spC_len B) P0e.out spC_one (by omega) hz6 rfl _ _ rfl rfl rfl ?_; intro v7 w7 ho7 hg7))
  have hb7 : Below w.heap.size w w7 := hb6.grown hg7 hz6 (fun k hk => (O6.out.lt k hk).1)
  obtain ⟨p7, c7, rfl, -⟩ := own_slice ho7
  have en : 0 + A.length + B.length = (A ++ B).length := by simp
  rw [en] at ho7 ⊢
  have s7 : SpansIn w7 p7 (A ++ B) := SpansIn.of_own (n := (A ++ B).length) (c := c7) (base := w.heap.size) (E := 39) (by rw [spC_app]; simpa using ho7)
  have HE := Lib.hid (Ends_any p7 c7 (A ++ B) w7 (by simp; omega) s7)
  have HLAB : Hid ((A ++ B).length ≤ 4000) := Lib.hid (by simp; omega)
  clear ho7 hg7 s7 O6 O0 P0e P1 en hb6 hbE hz6
  go_wp2_with fail
  refine (HE.out).mono ?_
  rintro e w8 ⟨D, q8, c8, rfl, hR, hM, hl, hI, hb8⟩
  have hTE := together_end (A := A) (B := B) (D := D) way hR (fun s hs => hM s (List.mem_append.2 (.inl hs))) (fun s hs => hM s (List.mem_append.2 (.inr hs)))
  rw [← HP.out] at hTE
  have HTE := Lib.hid hTE
  have hb9 := hb7.trans (hb8.mono hb7.size)
  have A8 := Lib.hid (P3.out.below hb9 (Nat.le_refl _))
  have B8 := Lib.hid (P2.out.below hb9 (Nat.le_refl _))
  have HI := Lib.hid hI
  have hDl : D.length ≤ 8000 := by have := HLAB.out; omega
  obtain ⟨n, hnl⟩ : ∃ n, n = D.length := ⟨_, rfl⟩
  rw [← hnl] at hDl ⊢
  have HN := Lib.hid hnl
  obtain ⟨ef, hef⟩ : ∃ ef : Nat → Int, ef = fun i => D.getD i 0 := ⟨_, rfl⟩
  have HF : Hid (∀ i, D.getD i 0 = ef i) := Lib.hid (fun i => by rw [hef])
  have HEF := Lib.hid hef
  clear hR hM hl hI hnl hTE P2 P3 HE hb7 hb8 HQ HLAB hef hA hB
  go_wp2
  go_loopw [8, 9, 10] (fun ov bv kv wr => ∃ (k : Nat) (K : List Sp) (o : Option Int) (u : Value) (m : Nat) (bo : Bool), k ≤ n ∧ kv = .int .i64 k ∧ u = ov ∧ bv = .bool bo ∧ Hid (bo = o.isSome) ∧ Hid ((K, o) = refSt P ef k) ∧ Hid (m = (outL (K, o)).length) ∧ m ≤ k ∧ Hid (wr.ownsRow w8.heap.size 39 2 u m (spC (outL (K, o)))) ∧ Below w8.heap.size w8 wr) (fun _ _ kv _ => n - (RowKit.intOf kv).toNat)
  case atStart => exact ⟨0, [], none, _, 0, false, by omega, rfl, rfl, rfl, Lib.hid rfl, Lib.hid rfl, Lib.hid rfl, by omega, Lib.hid (World.ownsRow_nil _ _ _ _), Below.refl _ _⟩
  case round =>
    obtain ⟨k, K, o, u, m, bo, hk, rfl, rfl, rfl, HBO, HS, HM, hm, HO, hb⟩ := hrel
    by_cases hlt : k < n
    · rcases HI.out with h | ⟨bd, od, rfl, hc⟩
      · have := HN.out; rw [h] at this; simp at this; omega
      have d0 := hc k (by rw [← HN.out]; exact hlt)
      rw [HF.out] at d0
      have d1 := (hb.cell (World.block_lt_of_cell? _ _ d0)).trans d0
      have i1 : (k : Int) < (n : Int) := by omega
      have HST : Hid (refSt P ef (k + 1) = match (K, o) with
        | (K, none) => if P (ef k) = true then (K, some (ef k)) else (K, none)
        | (K, some f) => if P (ef k) = true then (K, some f) else (K ++ [(f, ef k)], none)) := Lib.hid (by rw [HS.out]; rfl)
      have HLN := Lib.hid (outL_len P ef (k + 1))
      have A9 := Lib.hid (A8.out.below hb (Nat.le_refl _))
      have B9 := Lib.hid (B8.out.below hb (Nat.le_refl _))
      have HIK := Lib.hid (HIS.out (ef k))
      generalize ef k = x at *
      clear d0 hc HTE
      cases hnow : P x with
      | false =>
        simp only [hnow] at HST HIK
        cases o with
        | none =>
          obtain rfl : bo = false := HBO.out
          have HS2 : Hid ((K, (none : Option Int)) = refSt P ef (k + 1)) := Lib.hid (by rw [HST.out]; simp)
          clear HST HS hnow
          go_wp2_with fail
          refine (HIK.out _ A9.out B9.out).mono ?_
          rintro e w3 ⟨rfl, hb3⟩
          have HO3 := Lib.hid (own_below HO.out hb3 (Nat.le_refl _))
          have hb4 := hb.trans (hb3.mono hb.size)
          go_wp2
          exact ⟨⟨k + 1, K, none, u, m, false, by omega, by go_num, rfl, rfl, HBO, HS2, HM, by omega, HO3, hb4⟩, by simp [RowKit.intOf]; omega⟩
        | some f =>
          obtain rfl : bo = true := HBO.out
          have HS2 : Hid ((K ++ [(f, x)], (none : Option Int)) = refSt P ef (k + 1)) := Lib.hid (by rw [HST.out]; simp)
          have hmK : m = K.length + 1 := by rw [HM.out, outL_some]; simp
          obtain ⟨n', hn'⟩ : ∃ n', n' = K.length := ⟨_, rfl⟩
          have HN' := Lib.hid hn'
          rw [← hn'] at hmK
          subst hmK
          have HOs : Hid (wr.ownsRow w8.heap.size 39 2 u (n' + 1) (spC (K ++ [(f, 0)]))) := Lib.hid (by have := HO.out; rwa [outL_some] at this)
          clear HST HS hnow HM HO hn'
          obtain ⟨g, cg, rfl, hg1, hg2, hgc, hcell⟩ := own_cells HOs.out (by omega)
          have q0 : wr.cell? ⟨g, n' * 2 + 1, none⟩ = some (.int .i64 0) := hcell _ _ (by
            have := (spC_at (K ++ [(f, 0)]) K.length (by simp)).2
            rw [HN'.out]
            simpa using this)
          have f0 := HOs.out.frozenAt (n' * 2 + 1)
          clear hcell
          go_wp2_with fail
          refine (HIK.out _ A9.out B9.out).mono ?_
          rintro e w3 ⟨rfl, hb3⟩
          have HO3 := Lib.hid (own_below HOs.out hb3 (Nat.le_refl _))
          have hb4 := hb.trans (hb3.mono hb.size)
          have q1 := (hb3.cell (p := ⟨g, n' * 2 + 1, none⟩) hg2).trans q0
          have f1 := (hb3.frozen (p := ⟨g, n' * 2 + 1, none⟩) hg2).trans f0
          have d2 := (hb3.cell (World.block_lt_of_cell? _ _ d1)).trans d1
          have j1 : (((n' + 1 : Nat) : Int) - 1) = (n' : Int) := by omega
          clear q0 f0 d1
          go_wp2
          obtain ⟨hst, hgr⟩ := World.ownsRow.stored (w := w3) HO3.out (n' * 2 + 1) (.int .i64 x)
          have HO4 : Hid ((w3.setCell ⟨g, n' * 2 + 1, none⟩ (.int .i64 x)).ownsRow w8.heap.size 39 2 (.slice (some ⟨g, 0, none⟩) (n' + 1) cg) (n' + 1) (spC (outL (K ++ [(f, x)], none)))) := Lib.hid (by
            rw [outL_none]
            rw [HN'.out] at hst ⊢
            rw [spC_set] at hst
            simpa using hst)
          exact ⟨⟨k + 1, K ++ [(f, x)], none, _, n' + 1, false, by omega, by go_num, rfl, rfl, Lib.hid rfl, HS2, Lib.hid (by rw [outL_none, HN'.out]; simp), by omega, HO4, hb4.grown hgr hb4.size (fun j hj => by injection hj with hj; omega)⟩, by simp [RowKit.intOf]; omega⟩
      | true =>
        simp only [hnow] at HST HIK
        cases o with
        | none =>
          obtain rfl : bo = false := HBO.out
          have HS2 : Hid ((K, some x) = refSt P ef (k + 1)) := Lib.hid (by rw [HST.out]; simp)
          have HMK : Hid (m = K.length) := Lib.hid (by rw [HM.out, outL_none])
          have HOs : Hid (wr.ownsRow w8.heap.size 39 2 u m (spC K)) := Lib.hid (by have := HO.out; rwa [outL_none] at this)
          clear HST HS hnow HM HO
          go_wp2_with fail
          refine (HIK.out _ A9.out B9.out).mono ?_
          rintro e w3 ⟨rfl, hb3⟩
          have HO3 := Lib.hid (own_below HOs.out hb3 (Nat.le_refl _))
          have hb4 := hb.trans (hb3.mono hb.size)
          have d2 := (hb3.cell (World.block_lt_of_cell? _ _ d1)).trans d1
          clear d1
          go_wp2_with (at_builtin; refine app_arm Try.underlying22 infoSpan rfl (by omega) (by omega) w8.heap.size w3 _ m _ HO3.out 1 [.int .i64 x, .int .i64 0] rfl (spC_one (L := [(x, 0)])) (by omega) hb4.size rfl _ _ rfl rfl rfl ?_; intro v' w5 ho5 hg5)
          have HO5 : Hid (w5.ownsRow w8.heap.size 39 2 v' (m + 1) (spC (outL (K, some x)))) := Lib.hid (by rw [outL_some, spC_app]; exact ho5)
          exact ⟨⟨k + 1, K, some x, v', m + 1, true, by omega, by go_num, rfl, rfl, Lib.hid rfl, HS2, Lib.hid (by rw [outL_some, HMK.out]; simp), by omega, HO5, (hb4.alloc hb4.size _).grown hg5 (by have := hb4.size; simp; omega) (fun j hj => (HO3.out.lt j hj).1)⟩, by simp [RowKit.intOf]; omega⟩
        | some f =>
          obtain rfl : bo = true := HBO.out
          have HS2 : Hid ((K, some f) = refSt P ef (k + 1)) := Lib.hid (by rw [HST.out]; simp)
          clear HST HS hnow
          go_wp2_with fail
          refine (HIK.out _ A9.out B9.out).mono ?_
          rintro e w3 ⟨rfl, hb3⟩
          have HO3 := Lib.hid (own_below HO.out hb3 (Nat.le_refl _))
          have hb4 := hb.trans (hb3.mono hb.size)
          go_wp2
          exact ⟨⟨k + 1, K, some f, u, m, true, by omega, by go_num, rfl, rfl, HBO, HS2, HM, by omega, HO3, hb4⟩, by simp [RowKit.intOf]; omega⟩
    · obtain rfl : n = k := by omega
      go_wp2
      go_ret
      have hTE := HTE.out
      rw [← HN.out, ← HEF.out, ← HS.out] at hTE
      obtain ⟨t1, t2, t3⟩ := hTE
      dsimp only at t1 t2 t3
      subst t1
      have hML := HM.out
      rw [outL_none] at hML
      have hO := HO.out
      rw [outL_none] at hO
      obtain ⟨q', c'', hv, -⟩ := own_slice hO
      refine ⟨K, q', c'', by rw [← hML]; exact congrArg _ hv, t2, (fun d => by rw [HP.out]; exact t3 d), by omega, ?_, hb9.trans (hb.mono hb9.size)⟩
      rw [hv] at hO
      exact SpansIn.of_own (n := m) (c := c'') (base := w8.heap.size) (E := 39) (by rw [← hML]; exact hO)

end Go.Proofs.Ytefcadngdcgpiaa
