/-
  What is proved: the contract of the document's put: a day put into days that rise. Conditions: the list's limit; the days lie in memory and rise.
-/
import Derived.Test.YtefcadngdcgpiaaSpM
import Derived.Test.YtefcadngdcgpiaaSpN
namespace Go.Proofs.Ytefcadngdcgpiaa
open Go Go.RowKit Go.Proofs
set_option linter.unusedVariables false

/-- What put returns. -/
def PutPost (D : List Int) (d : Int) (w : World) (e : Ending) (w' : World) : Prop :=
  ∃ (D' : List Int) (q : Option Addr) (c : Nat), e = .returned (.slice q D'.length c) ∧ Rise D' ∧ (∀ x, x ∈ D' ↔ x = d ∨ x ∈ D) ∧ D'.length ≤ D.length + 1 ∧ D'.length ≤ c ∧ (q = none → c = 0) ∧ DaysIn w' q D' ∧ Below w.heap.size w w'

set_option maxRecDepth 100000 in
/-- A slice of days up to a place. -/
theorem cut_lo (p : Option Addr) (n c k : Nat) (D : List Int) (hn : n = D.length) (hnc : n ≤ c) (hk : k ≤ n) (hnil : p = none → c = 0) :
    ∃ q : Option Addr, (∀ W, (Instr.slice 41 (.slice p n c) none (some (.int .i64 (k : Int))) none).run Try.prog W = .ok (.slice q k c) W) ∧ ∀ W, DaysIn W p D → (q = none ∧ k = 0 ∧ c = 0 ∨ ∃ a, q = some a ∧ ∀ j u, (dyC (D.take k))[j]? = some u → W.cell? (a.add j) = some u) := by
  have hsz := Try.sizeOf23
  match p, hnil with
  | none, hnil =>
    have hc := hnil rfl
    refine ⟨none, fun W => ?_, fun W _ => .inl ⟨rfl, by omega, hc⟩⟩
    rw [run_slice_h (P := Try.prog) (w := W) _ _ _ _ Try.underlying41 _ _ (by omega) (by omega)]
    simp [go_sem, hsz]
  | some ⟨b, o, sp⟩, _ =>
    have he : ∃ q, (∀ W, (Instr.slice 41 (.slice (some ⟨b, o, sp⟩) n c) none (some (.int .i64 (k : Int))) none).run Try.prog W = .ok (.slice (some q) k c) W) ∧ (sp = none → q = ⟨b, o, none⟩) := by
      refine ⟨if 0 = c then ⟨b, o, sp⟩ else (⟨b, o, sp⟩ : Addr).add 0, fun W => ?_, fun h => ?_⟩
      · rw [run_slice_h (P := Try.prog) (w := W) _ _ _ _ Try.underlying41 _ _ (by omega) (by omega)]
        by_cases h0 : 0 = c
        · subst h0; obtain rfl : k = 0 := by omega
          simp [go_sem, hsz]
        · simp [go_sem, hsz, h0]
      · subst h; split
        · rfl
        · simp [Addr.add]
    obtain ⟨q, hq, hs⟩ := he
    refine ⟨some q, hq, fun W h => .inr ⟨q, rfl, fun j u hu => ?_⟩⟩
    rcases h with h | ⟨b', o', hp, hc⟩
    · subst h; simp [dyC] at hu
    · injection hp with hp
      injection hp with h1 h2 h3
      subst h1; subst h2
      rw [hs h3]
      have hj : j < (D.take k).length := by rw [← dyC_len]; exact (List.getElem?_eq_some_iff.1 hu).1
      rw [dyC_at _ j hj] at hu
      rw [List.length_take] at hj
      have h4 := hc j (by omega)
      have h5 : (D.take k).getD j 0 = D.getD j 0 := by rw [getD_at _ _ (by rw [List.length_take]; omega), getD_at _ _ (by omega)]; simp
      rw [h5] at hu
      have e : (⟨b, o, none⟩ : Addr).add j = ⟨b, o + j, none⟩ := by unfold Addr.add; split <;> simp_all
      rw [e]; exact h4.trans hu
set_option maxRecDepth 100000 in
/-- A slice of days from a place on. -/
theorem cut_hi (p : Option Addr) (n c k : Nat) (D : List Int) (hn : n = D.length) (hnc : n ≤ c) (hk : k ≤ n) (hnil : p = none → c = 0) :
    ∃ q : Option Addr, (∀ W, (Instr.slice 41 (.slice p n c) (some (.int .i64 (k : Int))) none none).run Try.prog W = .ok (.slice q (n - k) (c - k)) W) ∧ ∀ W, DaysIn W p D → (q = none ∧ n - k = 0 ∧ c - k = 0 ∨ ∃ a, q = some a ∧ ∀ j u, (dyC (D.drop k))[j]? = some u → W.cell? (a.add j) = some u) := by
  have hsz := Try.sizeOf23
  match p, hnil with
  | none, hnil =>
    have hc := hnil rfl
    refine ⟨none, fun W => ?_, fun W _ => .inl ⟨rfl, by omega, by omega⟩⟩
    rw [run_slice_l (P := Try.prog) (w := W) _ _ _ _ Try.underlying41 _ _ (by omega) (by omega)]
    simp [go_sem, hsz]
  | some ⟨b, o, sp⟩, _ =>
    have he : ∃ q, (∀ W, (Instr.slice 41 (.slice (some ⟨b, o, sp⟩) n c) (some (.int .i64 (k : Int))) none none).run Try.prog W = .ok (.slice (some q) (n - k) (c - k)) W) ∧ (sp = none → k < c → q = ⟨b, o + k, none⟩) := by
      refine ⟨if k = c then ⟨b, o, sp⟩ else (⟨b, o, sp⟩ : Addr).add k, fun W => ?_, fun h h1 => ?_⟩
      · rw [run_slice_l (P := Try.prog) (w := W) _ _ _ _ Try.underlying41 _ _ (by omega) (by omega)]
        by_cases h0 : k = c
        · subst h0; simp [go_sem, hsz]
        · have h1 : ¬ c = k := fun h => h0 h.symm
          simp [go_sem, hsz, h0, h1]
      · subst h; rw [if_neg (by omega)]; simp [Addr.add]
    obtain ⟨q, hq, hs⟩ := he
    refine ⟨some q, hq, fun W h => .inr ⟨q, rfl, fun j u hu => ?_⟩⟩
    rcases h with h | ⟨b', o', hp, hc⟩
    · subst h; simp [dyC] at hu
    · injection hp with hp
      injection hp with h1 h2 h3
      subst h1; subst h2
      have hj : j < (D.drop k).length := by rw [← dyC_len]; exact (List.getElem?_eq_some_iff.1 hu).1
      rw [dyC_at _ j hj] at hu
      rw [List.length_drop] at hj
      rw [hs h3 (by omega)]
      have h4 := hc (k + j) (by omega)
      have h5 : (D.drop k).getD j 0 = D.getD (k + j) 0 := by rw [getD_at _ _ (by rw [List.length_drop]; omega), getD_at _ _ (by omega)]; simp
      rw [h5] at hu
      have e : (⟨b, o + k, none⟩ : Addr).add j = ⟨b, o + (k + j), none⟩ := by unfold Addr.add; split <;> simp_all [Nat.add_assoc]
      rw [e]; exact h4.trans hu

theorem own_nil0 {w : World} {base : Nat} {E : TypeId} {s n c : Nat} {xs : List Value} (h : w.ownsRow base E s (.slice none n c) n xs) : c = 0 := by
  rcases h.2 with ⟨h1, -⟩ | ⟨g, c', cur, h1, -⟩
  · injection h1
  · injection h1 with h1; cases h1
set_option maxHeartbeats 2000000 in
set_option maxRecDepth 100000 in
theorem put_any (p : Option Addr) (c : Nat) (D : List Int) (d : Int) (w : World) (hn : D.length ≤ 100000) (hcap : D.length ≤ c) (hnil : p = none → c = 0) (h : DaysIn w p D) (hD : Rise D) :
    Calls Try.prog 46 #[.slice p D.length c, .int .i64 d] w (PutPost D d w) := by
  have HI := Lib.hid h
  have HD := Lib.hid hD
  clear h hD
  obtain ⟨n, hnl⟩ : ∃ n, n = D.length := ⟨_, rfl⟩
  rw [← hnl] at hn hcap ⊢
  have HN := Lib.hid hnl
  clear hnl
  go_enter Try.func46, Try.ntmps46
  go_wp2
  go_loop [5] (fun kv => ∃ k : Nat, k ≤ n ∧ kv = .int .i64 k ∧ Hid (∀ j, j < k → D.getD j 0 < d)) (fun kv => n - (RowKit.intOf kv).toNat)
  case atStart => exact ⟨0, by omega, rfl, Lib.hid (fun j hj => absurd hj (by omega))⟩
  case round =>
    obtain ⟨k, hk, rfl, HL⟩ := hrel
    by_cases hlt : k < n
    · have hlt' : k < D.length := by rw [← HN.out]; exact hlt
      rcases HI.out with h | ⟨b, o, rfl, hc⟩
      · rw [h] at hlt'; simp at hlt'
      have c1 := hc k hlt'
      have i1 : (k : Int) < (n : Int) := by omega
      by_cases hx : D.getD k 0 < d
      · have HL2 : Hid (∀ j, j < k + 1 → D.getD j 0 < d) := Lib.hid (fun j hj => by
          rcases Nat.lt_or_ge j k with h1 | h1
          · exact HL.out j h1
          · rw [show j = k by omega]; exact hx)
        clear hc HI
        generalize D.getD k 0 = x at c1 hx
        go_wp2
        go_round
        case rel => exact ⟨k + 1, by omega, by go_num, HL2⟩
        case measure => simp [RowKit.intOf]; omega
      · by_cases hxd : D.getD k 0 = d
        · have HP : Hid (putAt D k d = D) := Lib.hid (by unfold putAt; rw [if_pos ⟨hlt', hxd⟩])
          have HR := Lib.hid (putAt_rise HD.out (a := k) (d := d) (by omega) HL.out (fun _ => by omega))
          have HI' := Lib.hid (show DaysIn w (some ⟨b, o, none⟩) D from HI.out)
          clear hc HI
          generalize D.getD k 0 = x at c1 hx hxd
          subst hxd
          have e1 : (x == x) = true := by simp
          have hx2 : ¬ x < x := by omega
          go_wp2
          go_ret
          exact ⟨D, some ⟨b, o, none⟩, c, by rw [← HN.out]; rfl, HD.out, (by have := HR.out.2; rwa [HP.out] at this), by omega, by rw [← HN.out]; exact hcap, hnil, HI'.out, Below.refl _ _⟩
        · have hx3 : ¬ D.getD k 0 = d := hxd
          have HP : Hid (putAt D k d = D.take k ++ [d] ++ D.drop k) := Lib.hid (by unfold putAt; rw [if_neg (fun h => hxd h.2)])
          have HR := Lib.hid (putAt_rise HD.out (a := k) (d := d) (by omega) HL.out (fun _ => by omega))
          have HI' := Lib.hid (show DaysIn w (some ⟨b, o, none⟩) D from HI.out)
          clear hc HI
          generalize D.getD k 0 = x at c1 hx hxd hx3
          have e1 : (x == d) = false := by simpa using hxd
          clear hx3
          obtain ⟨q1, R1, S1⟩ := cut_lo (some ⟨b, o, none⟩) n c k D HN.out hcap hk hnil
          obtain ⟨q2, R2, S2⟩ := cut_hi (some ⟨b, o, none⟩) n c k D HN.out hcap hk hnil
          have HS1 := Lib.hid (S1 w HI'.out)
          have HS2 := Lib.hid S2
          have hlk : (dyC (D.take k)).length = k * 1 := by rw [dyC_len, List.length_take]; have := HN.out; omega
          have hlm : (dyC (D.drop k)).length = (n - k) * 1 := by rw [dyC_len, List.length_drop]; have := HN.out; omega
          have O0 := Lib.hid (World.ownsRow_nil w w.heap.size 23 1)
          clear S1 S2
          go_upto_region 8 with (at_builtin; refine app_src_arm Try.underlying41 infoDay rfl (by omega) (by omega) w.heap.size w _ 0 [] O0.out q1 k c (dyC (D.take k)) hlk HS1.out dyC_one (by omega) (Nat.le_refl _) rfl _ _ rfl rfl rfl ?_; intro v1 w1 ho1 hg1)
          have hB1 : Below w.heap.size w w1 := (Below.refl _ _).grown hg1 (Nat.le_refl _) (fun j h => by simp [Value.ownBlock] at h)
          have HO1 : Hid (w1.ownsRow w.heap.size 23 1 v1 k (dyC (D.take k))) := Lib.hid (by simpa using ho1)
          clear ho1 hg1
          go_upto_region 9 with (at_builtin; refine app_arm Try.underlying41 infoDay rfl (by omega) (by omega) w.heap.size w1 _ k _ HO1.out 1 [.int .i64 d] rfl (dyC_one (L := [d])) (by omega) hB1.size rfl _ _ rfl rfl rfl ?_; intro v2 w2 ho2 hg2)
          have hB2 : Below w.heap.size w w2 := (hB1.alloc hB1.size _).grown hg2 (by have := hB1.size; simp; omega) (fun j h => (HO1.out.lt j h).1)
          have HO2 := Lib.hid ho2
          have HI2 := Lib.hid (HI'.out.below hB2 (Nat.le_refl _))
          clear ho2 hg2
          go_wp2_with (at_builtin; refine app_src_arm Try.underlying41 infoDay rfl (by omega) (by omega) w.heap.size w2 _ (k + 1) _ HO2.out q2 (n - k) (c - k) (dyC (D.drop k)) hlm (HS2.out w2 HI2.out) dyC_one (by omega) hB2.size rfl _ _ rfl rfl rfl ?_; intro v3 w3 ho3 hg3)
          have hB3 : Below w.heap.size w w3 := hB2.grown hg3 hB2.size (fun j h => (HO2.out.lt j h).1)
          obtain ⟨q, cq, rfl, hqc⟩ := own_slice ho3
          have hPL : (putAt D k d).length = k + 1 + (n - k) := by rw [HP.out]; have := HN.out; simp; omega
          have hD3 := DaysIn.of_own (n := k + 1 + (n - k)) (c := cq) (base := w.heap.size) (E := 23) (p := q) (L := putAt D k d) (w := w3) (by
            rw [hPL, HP.out, dyC_app, dyC_app]; exact ho3)
          go_ret
          exact ⟨putAt D k d, q, cq, by rw [hPL]; rfl, HR.out.1, HR.out.2, by rw [hPL]; have := HN.out; omega, by rw [hPL]; exact hqc, fun h => by subst h; exact own_nil0 ho3, hD3, hB3⟩
    · obtain rfl : n = k := by omega
      have HP : Hid (putAt D n d = D.take n ++ [d] ++ D.drop n) := Lib.hid (by unfold putAt; rw [if_neg (fun h => by have := HN.out; omega)])
      have HR := Lib.hid (putAt_rise HD.out (a := n) (d := d) (by have := HN.out; omega) HL.out (fun h => by have := HN.out; omega))
      have HI' := HI
      clear HI
      obtain ⟨q1, R1, S1⟩ := cut_lo p n c n D HN.out hcap hk hnil
      obtain ⟨q2, R2, S2⟩ := cut_hi p n c n D HN.out hcap hk hnil
      rw [Nat.sub_self] at R2 S2
      have HS1 := Lib.hid (S1 w HI'.out)
      have HS2 := Lib.hid S2
      have hlk : (dyC (D.take n)).length = n * 1 := by rw [dyC_len, List.length_take]; have := HN.out; omega
      have hlm : (dyC (D.drop n)).length = 0 * 1 := by rw [dyC_len, List.length_drop]; have := HN.out; omega
      have O0 := Lib.hid (World.ownsRow_nil w w.heap.size 23 1)
      clear S1 S2
      go_upto_region 8 with (at_builtin; refine app_src_arm Try.underlying41 infoDay rfl (by omega) (by omega) w.heap.size w _ 0 [] O0.out q1 n c (dyC (D.take n)) hlk HS1.out dyC_one (by omega) (Nat.le_refl _) rfl _ _ rfl rfl rfl ?_; intro v1 w1 ho1 hg1)
      have hB1 : Below w.heap.size w w1 := (Below.refl _ _).grown hg1 (Nat.le_refl _) (fun j h => by simp [Value.ownBlock] at h)
      have HO1 : Hid (w1.ownsRow w.heap.size 23 1 v1 n (dyC (D.take n))) := Lib.hid (by simpa using ho1)
      clear ho1 hg1
      go_upto_region 9 with (at_builtin; refine app_arm Try.underlying41 infoDay rfl (by omega) (by omega) w.heap.size w1 _ n _ HO1.out 1 [.int .i64 d] rfl (dyC_one (L := [d])) (by omega) hB1.size rfl _ _ rfl rfl rfl ?_; intro v2 w2 ho2 hg2)
      have hB2 : Below w.heap.size w w2 := (hB1.alloc hB1.size _).grown hg2 (by have := hB1.size; simp; omega) (fun j h => (HO1.out.lt j h).1)
      have HO2 := Lib.hid ho2
      have HI2 := Lib.hid (HI'.out.below hB2 (Nat.le_refl _))
      clear ho2 hg2
      go_wp2_with (at_builtin; refine app_src_arm Try.underlying41 infoDay rfl (by omega) (by omega) w.heap.size w2 _ (n + 1) _ HO2.out q2 0 (c - n) (dyC (D.drop n)) hlm (HS2.out w2 HI2.out) dyC_one (by omega) hB2.size rfl _ _ rfl rfl rfl ?_; intro v3 w3 ho3 hg3)
      have hB3 : Below w.heap.size w w3 := hB2.grown hg3 hB2.size (fun j h => (HO2.out.lt j h).1)
      obtain ⟨q, cq, rfl, hqc⟩ := own_slice ho3
      have hPL : (putAt D n d).length = n + 1 + 0 := by rw [HP.out]; have := HN.out; simp; omega
      have hD3 := DaysIn.of_own (n := n + 1 + 0) (c := cq) (base := w.heap.size) (E := 23) (p := q) (L := putAt D n d) (w := w3) (by
        rw [hPL, HP.out, dyC_app, dyC_app]; exact ho3)
      go_ret
      exact ⟨putAt D n d, q, cq, by rw [hPL]; rfl, HR.out.1, HR.out.2, by rw [hPL]; have := HN.out; omega, by rw [hPL]; exact hqc, fun h => by subst h; exact own_nil0 ho3, hD3, hB3⟩

end Go.Proofs.Ytefcadngdcgpiaa
