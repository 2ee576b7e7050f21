/-
  What is proved: the contract of sheet.Weeks. Conditions: the entries lie in memory as the contract says.
-/
import Derived.Test.YtlfflnfodnegnaaSkH
import Derived.Test.YtlfflnfodnegnaaSkN
import Derived.OwnWalk
import Derived.Maps.OwnOps
namespace Go.Proofs.Ytlfflnfodnegnaa
open Go Go.RowKit Go.Proofs
set_option linter.unusedVariables false

theorem monsL_len (f : Nat → En) : ∀ k, (monsL f k).length = k
  | 0 => rfl
  | k + 1 => by show (monsL f k).length + 1 = k + 1; rw [monsL_len f k]
theorem monsL_mem {f : Nat → En} {m : Int} : ∀ {k : Nat}, m ∈ monsL f k ↔ ∃ i, i < k ∧ mon (f i).1 = m
  | 0 => Iff.intro (fun h => by cases h) (fun h => by obtain ⟨i, h1, _⟩ := h; omega)
  | k + 1 => by
    show m ∈ mon (f k).1 :: monsL f k ↔ _
    rw [List.mem_cons, monsL_mem]
    constructor
    · rintro (h | ⟨i, h1, h2⟩)
      · exact ⟨k, by omega, h.symm⟩
      · exact ⟨i, by omega, h2⟩
    · rintro ⟨i, h1, h2⟩
      by_cases e : i = k
      · left; rw [← h2, e]
      · right; exact ⟨i, by omega, h2⟩
theorem nodup_len : ∀ (E L : List Int), E.Nodup → (∀ m, m ∈ E → m ∈ L) → E.length ≤ L.length
  | [], _, _, _ => Nat.zero_le _
  | e :: E, L, hn, h => by
    obtain ⟨a, b⟩ := List.nodup_cons.1 hn
    have he := h e (List.mem_cons_self ..)
    have := nodup_len E (L.erase e) b (fun m hm => (List.mem_erase_of_ne (fun h' => a (by rw [← h']; exact hm))).2 (h m (List.mem_cons_of_mem _ hm)))
    have h2 := List.length_erase_of_mem he
    have h3 := List.length_pos_of_mem he
    simp only [List.length_cons]
    omega

/-- Hours as cells. -/
def hrC (L : List Hr) : List Value := L.flatMap (fun h => [.int .i64 h.1, .int .i64 h.2.1, .int .i64 h.2.2])
theorem hrC_len : ∀ L, (hrC L).length = L.length * 3
  | [] => rfl
  | s :: r => by show (hrC r).length + 3 = _; rw [hrC_len r]; simp; omega
theorem hrC_app (K L : List Hr) : hrC (K ++ L) = hrC K ++ hrC L := by simp [hrC]
theorem hrC_at : ∀ (L : List Hr) (j : Nat), j < L.length → (hrC L)[j * 3]? = some (.int .i64 (L.getD j (0, 0, 0)).1) ∧ (hrC L)[j * 3 + 1]? = some (.int .i64 (L.getD j (0, 0, 0)).2.1) ∧ (hrC L)[j * 3 + 2]? = some (.int .i64 (L.getD j (0, 0, 0)).2.2)
  | s :: r, 0, _ => ⟨rfl, rfl, rfl⟩
  | s :: r, j + 1, h => by
    obtain ⟨a, b, c⟩ := hrC_at r j (by simpa using h)
    rw [show (j + 1) * 3 = j * 3 + 3 by omega]
    exact ⟨a, b, c⟩
/-- Hours that lie in memory, one behind the other. -/
def HrsIn (w : World) (p : Option Addr) (n : Nat) (g : Nat → Hr) : Prop := n = 0 ∨ ∃ b o, p = some ⟨b, o, none⟩ ∧ ∀ j, j < n → w.cell? ⟨b, o + j * 3, none⟩ = some (.int .i64 (g j).1) ∧ w.cell? ⟨b, o + j * 3 + 1, none⟩ = some (.int .i64 (g j).2.1) ∧ w.cell? ⟨b, o + j * 3 + 2, none⟩ = some (.int .i64 (g j).2.2)
theorem HrsIn.below {w w' : World} {p : Option Addr} {n : Nat} {f : Nat → Hr} (h : HrsIn w p n f) (hb : Below w.heap.size w w') : HrsIn w' p n f := by
  rcases h with h | ⟨b, o, rfl, hc⟩
  · exact .inl h
  · exact .inr ⟨b, o, rfl, fun j hj => ⟨stay hb (hc j hj).1, stay hb (hc j hj).2.1, stay hb (hc j hj).2.2⟩⟩
theorem HrsIn.congr {w : World} {p : Option Addr} {n : Nat} {f g : Nat → Hr} (h : HrsIn w p n f) (e : ∀ j, j < n → f j = g j) : HrsIn w p n g := by
  rcases h with h | ⟨b, o, rfl, hc⟩
  · exact .inl h
  · exact .inr ⟨b, o, rfl, fun j hj => by rw [← e j hj]; exact hc j hj⟩
theorem hrs_own {w : World} {B n c : Nat} {E : TypeId} {p : Option Addr} {L : List Hr} (h : w.ownsRow B E 3 (.slice p n c) L.length (hrC L)) : HrsIn w p L.length (fun j => L.getD j (0, 0, 0)) := by
  by_cases e : L.length = 0
  · exact .inl e
  · obtain ⟨g, c', hv, -, -, -, hc⟩ := own_cells h (by omega)
    injection hv with hv
    subst hv
    refine .inr ⟨g, 0, rfl, fun j hj => ?_⟩
    obtain ⟨a, b, d⟩ := hrC_at L j hj
    rw [Nat.zero_add]
    exact ⟨hc _ _ a, hc _ _ b, hc _ _ d⟩
theorem take_next (E : List Int) {j : Nat} (h : j < E.length) : E.take (j + 1) = E.take j ++ [E.getD j 0] := by
  rw [List.take_add_one, getD_at E 0 h]; simp [h]

theorem fieldS (A a1 a2 a3 : Int) (V : World) : (Instr.field 64 (.agg #[.int .i64 A, .int .i64 a1, .int .i64 a2, .int .i64 a3]) 1).run Try.prog V = .ok (.agg #[.int .i64 a1, .int .i64 a2, .int .i64 a3]) V := by kernel_rfl
theorem news_at (W : World) (cs : List Value) (t : TypeId) : ∀ j u, cs[j]? = some u → (W.alloc (.cells cs.toArray t)).cell? ((⟨W.heap.size, 0, none⟩ : Addr).add j) = some u := fun j u h => by
  rw [add_at, new_at]; simpa using h
theorem own_base {w : World} {base : Nat} {E : TypeId} {s n c : Nat} {p : Option Addr} {xs : List Value} (h : w.ownsRow base E s (.slice p n c) n xs) : ∀ a, p = some a → base ≤ a.block := fun a ha => by
  subst ha
  rcases h.2 with ⟨h1, _⟩ | ⟨g', c', cur, h1, h2, _⟩
  · cases h1
  · injection h1 with h1; injection h1 with h1; rw [h1]; exact h2
/-- What Weeks answers. -/
def WeeksR (f : Nat → En) (n : Nat) (D W : Int) (w : World) (e : Ending) (w' : World) : Prop :=
  ∃ (E : List Int) (p : Option Addr) (c : Nat), e = .returned (.slice p E.length c) ∧ (chk f n D W = 0 → E.Nodup ∧ (∀ m, m ∈ E ↔ m ∈ monsL f n) ∧ (∀ i, i + 1 < E.length → E.getD i 0 < E.getD (i + 1) 0) ∧ HrsIn w' p E.length (fun j => (stt D W f n (E.getD j 0)).2)) ∧ (chk f n D W ≠ 0 → E = []) ∧ (∀ a, p = some a → w.heap.size ≤ a.block) ∧ Below w.heap.size w w'

set_option maxHeartbeats 4000000 in
set_option maxRecDepth 100000 in
theorem Weeks_any (f : Nat → En) (p : Option Addr) (n c : Nat) (D W : Int) (w : World) (h : EntsIn w p n f) :
    Calls Try.prog 11 #[.slice p n c, .agg #[.int .i64 D, .int .i64 W]] w (WeeksR f n D W w) := by
  obtain ⟨C, hC⟩ : ∃ C, C = chk f n D W := ⟨_, rfl⟩
  obtain ⟨W1, hW1⟩ : ∃ W1, W1 = w.alloc (.cells #[.int .i64 D, .int .i64 W] 24) := ⟨_, rfl⟩
  have hz1 : W1.heap.size = w.heap.size + 1 := by rw [hW1]; simp
  have hb0 : Below w.heap.size w W1 := by rw [hW1]; exact (Below.refl w.heap.size w).alloc (Nat.le_refl _) _
  have c0 : W1.cell? ⟨w.heap.size, 0, none⟩ = some (.int .i64 D) := by rw [hW1, new_at]; rfl
  have c1 : W1.cell? ⟨w.heap.size, 1, none⟩ = some (.int .i64 W) := by rw [hW1, new_at]; rfl
  have HK := check_any f p n c D W W1 (h.below hb0)
  rw [← hC] at HK
  unfold WeeksR
  rw [← hC]
  by_cases h0 : C = 0
  · rw [h0] at HK ⊢
    obtain ⟨hn, hr, hLim⟩ := chk_ok.1 (hC.symm.trans h0)
    have hmm := @run_makeMap Try.prog
    have HE := Lib.hid h
    replace HK := Lib.hid HK
    have HRT := Lib.hid hr
    have HLM := Lib.hid hLim
    have HT := Lib.hid hn
    clear hC h0 h hr hLim hn C
    go_enter Try.func11, Try.ntmps11
    go_wp2_with fail
    rw [← hW1]
    clear hW1
    refine (HK.out).mono ?_
    rintro e w4 ⟨rfl, hb4⟩
    have hz4 := hb4.size
    have hbw := hb0.trans (hb4.mono (by omega))
    obtain ⟨g, hg⟩ : ∃ g, g = w4.heap.size := ⟨_, rfl⟩
    obtain ⟨W6, hW6⟩ : ∃ W6, W6 = w4.alloc (.map #[] 0) := ⟨_, rfl⟩
    have hb6 : Below g w4 W6 := by rw [hW6, hg]; exact (Below.refl w4.heap.size w4).alloc (Nat.le_refl _) _
    have hm6 : MapIs W6 g 0 (fun _ => (0, 0, 0, 0)) [] := by
      have := MapIs.made w4
      rwa [← hg, ← hW6] at this
    have e0 := stay hb4 c0
    have e1 := stay hb4 c1
    have HE4 := Lib.hid (HE.out.below hbw)
    rw [← hg] at hz4
    clear hb0 hb4 c0 c1 HK HE
    go_wp2
    rw [← hW6, ← hg]
    clear hW6
    have HG := Lib.hid hg
    clear hg
    go_loopw [18] (fun iv wr => ∃ k : Nat, k ≤ n ∧ iv = .int .i64 k ∧ Hid (MapIs wr g k (stt D W f k) (monsL f k)) ∧ Hid (Below g w4 wr)) (fun iv wr => n - (RowKit.intOf iv).toNat)
    case atStart => exact ⟨0, by omega, rfl, Lib.hid hm6, Lib.hid hb6⟩
    case round =>
      obtain ⟨k, hk, rfl, HM, HB⟩ := hrel
      have hmr := HM.out.lt
      have z0 : w.heap.size < wr.heap.size := by omega
      have sm : ∀ {x j v}, x < g → w4.cell? ⟨x, j, none⟩ = some v → wr.cell? ⟨x, j, none⟩ = some v := fun hx h => (HB.out.cell (p := ⟨_, _, none⟩) hx).trans h
      have y0 := sm (by omega) e0
      have y1 := sm (by omega) e1
      have HBW : Hid (Below w.heap.size w wr) := Lib.hid (hbw.trans (HB.out.mono (by omega)))
      by_cases hlt : k < n
      · have hlI : (k : Int) < (n : Int) := by omega
        have hk4 : (k : Int) < 4096 := by have := HT.out; omega
        rcases HE4.out with h | ⟨b, o, rfl, hc⟩
        · omega
        obtain ⟨xa, xb, xc⟩ := hc k hlt
        have hbg : b < g := by rw [HG.out]; exact World.block_lt_of_cell? _ _ xa
        replace xa := sm hbg xa
        replace xb := sm hbg xb
        replace xc := sm hbg xc
        have kb : b < wr.heap.size := by omega
        obtain ⟨V, hV⟩ : ∃ V, V = wr.alloc (.cells #[.int .i64 (f k).1, .int .i64 (f k).2.1, .int .i64 (f k).2.2] 46) := ⟨_, rfl⟩
        have hbV : Below wr.heap.size wr V := by rw [hV]; exact (Below.refl _ _).alloc (Nat.le_refl _) _
        have hzV : V.heap.size = wr.heap.size + 1 := by rw [hV]; simp
        have hst := stt_bd HRT.out HLM.out k (by omega) (mon (f k).1)
        have hn4 := HT.out
        have HP := Lib.hid (put_any D W (f k) g k (stt D W f k) (monsL f k) V HLM.out (HRT.out.1 k hlt) (by omega) ⟨by omega, by omega, by omega⟩ (by omega) (HM.out.below hbV))
        have HBV : Below g w4 V := HB.out.trans (hbV.mono (by omega))
        clear hst HM HB sm hc HBW hn4 hbV hmm
        generalize hrs D W (stt D W f k (mon (f k).1)).1 (f k) = hv at HP
        have HP2 : Hid (Calls Try.prog 18 #[.agg #[.int .i64 D, .int .i64 W], .agg #[.int .i64 (f k).1, .int .i64 (f k).2.1, .int .i64 (f k).2.2], .map (some g)] V fun r w' => r = .returned (.agg #[.int .i64 hv.1, .int .i64 hv.2.1, .int .i64 hv.2.2]) ∧ MapIs w' g (k + 1) (stt D W f (k + 1)) (monsL f (k + 1)) ∧ V.grownBy w' (some g)) := Lib.hid HP.out
        clear HP
        generalize f k = e at *
        obtain ⟨d, mi, ni⟩ := e
        simp only at *
        go_wp2_with fail
        rw [← hV]
        clear hV xa xb xc y0 y1
        refine (HP2.out).mono ?_
        rintro e w5 ⟨rfl, HM5, hg5⟩
        have HB5 := Lib.hid (HBV.grown hg5 (by omega) (fun j hj => by injection hj; omega))
        replace HM5 := Lib.hid HM5
        clear HBV hg5 HP2 hzV
        go_wp2
        go_roundw
        case rel => exact ⟨k + 1, by omega, by go_num, HM5, HB5⟩
        case measure => simp [RowKit.intOf]; omega
      · obtain rfl : k = n := by omega
        clear sm y0 y1 e0 e1 hmm
        have HKY := Lib.hid (Keys_any g wr)
        have HSO := Lib.hid (SortedFunc_any g k (stt D W f k) (monsL f k) wr HM.out (by have := HT.out; omega) (fun E h1 h2 => by have := nodup_len E (monsL f k) h1 (fun m hm => (h2 m).1 hm); rw [monsL_len] at this; have := HT.out; omega))
        go_wp2_with fail
        refine (HKY.out).mono ?_
        rintro e w7 ⟨rfl, rfl⟩
        go_wp2_with fail
        refine (HSO.out).mono ?_
        rintro e w8 ⟨E, pe, ce, rfl, hnd, hmem, hrise, hME, hb8⟩
        have hEl := nodup_len E (monsL f k) hnd (fun m hm => (hmem m).1 hm)
        rw [monsL_len] at hEl
        have hT := HT.out
        have hEI : E.length ≤ 4096 := by omega
        have HMA := HM.out.below hb8
        have hz8 := hb8.size
        have HF1 : Hid (E.Nodup ∧ (∀ m, m ∈ E ↔ m ∈ monsL f k) ∧ (∀ i, i + 1 < E.length → E.getD i 0 < E.getD (i + 1) 0)) := Lib.hid ⟨hnd, hmem, hrise⟩
        have HWF : Hid (∀ j, j < E.length → (Lit.int .i64 (E.getD j 0)).wf = true) := Lib.hid (fun j hj => by
          have hm : E.getD j 0 ∈ E := by rw [getD_at E 0 hj]; exact List.getElem_mem _
          obtain ⟨i, h1, h2⟩ := monsL_mem.1 ((hmem _).1 hm)
          have := mon_bd (HRT.out.1 i h1).1
          rw [← h2]
          exact wf64 (by omega) (by omega))
        have HB8 : Hid (Below w.heap.size w w8) := Lib.hid (HBW.out.trans (hb8.mono (by omega)))
        obtain ⟨gE, hgE⟩ : ∃ gE : Int → Hr, gE = fun m => (stt D W f k m).2 := ⟨_, rfl⟩
        have HGE := Lib.hid hgE
        have HM8 := Lib.hid HMA
        have HE8 := Lib.hid hME
        have hgl := HMA.lt
        clear HKY HSO hnd hmem hrise hME HMA hb8 hT hEl hgE HM HB HBW
        obtain ⟨wq, rfl⟩ : ∃ wq, wq = wr := ⟨_, rfl⟩
        go_wp2
        go_loopw [31, 8] (fun iv hv wr => ∃ j : Nat, j ≤ E.length ∧ iv = .int .i64 j ∧ Hid (wr.ownsRow w8.heap.size 30 3 hv j (hrC ((E.take j).map gE))) ∧ Hid (Below w8.heap.size w8 wr)) (fun iv _ _ => E.length - (RowKit.intOf iv).toNat)
        case atStart => exact ⟨0, by omega, rfl, Lib.hid ⟨rfl, .inl ⟨rfl, rfl⟩⟩, Lib.hid (Below.refl _ _)⟩
        case round =>
          obtain ⟨j, hj, rfl, HO, HBr⟩ := hrel
          have hzr := HBr.out.size
          by_cases hlt : j < E.length
          · have hlI : (j : Int) < (E.length : Int) := by omega
            have hj4 : (j : Int) < 4096 := by omega
            rcases HE8.out with h | ⟨b, o, rfl, hc⟩
            · omega
            have xa := stay HBr.out (hc j hlt)
            have kb : b < wr.heap.size := World.block_lt_of_cell? _ _ xa
            have hMr := HM8.out.below HBr.out
            obtain ⟨m, hm⟩ : ∃ m, m = E.getD j 0 := ⟨_, rfl⟩
            have hwf := HWF.out j hlt
            rw [← hm] at xa hwf
            have hMA := hMr.below ((Below.refl wr.heap.size wr).alloc (Nat.le_refl _) (.cells #[.int .i64 m] 59))
            obtain ⟨A, a1, a2, a3, hS⟩ : ∃ A a1 a2 a3, stt D W f k m = (A, a1, a2, a3) := ⟨_, _, _, _, rfl⟩
            have hlk := hMA.look hwf
            rw [hS] at hlk
            have hlk' : (Instr.lookup 53 (.map (some g)) (.agg #[.int .i64 m]) false).run Try.prog (wr.alloc (.cells #[.int .i64 m] 59)) = .ok (.agg #[.int .i64 A, .int .i64 a1, .int .i64 a2, .int .i64 a3]) (wr.alloc (.cells #[.int .i64 m] 59)) := hlk
            have hgE : gE m = (a1, a2, a3) := by rw [HGE.out]; show (stt D W f k m).2 = _; rw [hS]
            have HK : Hid (hrC ((E.take (j + 1)).map gE) = hrC ((E.take j).map gE) ++ [.int .i64 a1, .int .i64 a2, .int .i64 a3]) := Lib.hid (by rw [take_next E hlt, List.map_append, hrC_app, ← hm]; simp [hgE, hrC])
            obtain ⟨i0, hi, q0, q1, q2⟩ := info_parts (P := Try.prog) (e := 30) (z := .agg #[.int .i64 0, .int .i64 0, .int .i64 0]) (size := 3) (bytes := 24) (by kernel_rfl)
            have HO' := HO.out
            have fd := fieldS A a1 a2 a3 (wr.alloc (.cells #[.int .i64 m] 59))
            have hnw := news_at (wr.alloc (.cells #[.int .i64 m] 59)) [.int .i64 a1, .int .i64 a2, .int .i64 a3] 30
            have hzb : (wr.alloc (.cells #[.int .i64 m] 59)).heap.size = wr.heap.size + 1 := by simp
            rw [hzb] at hnw
            replace hnw := Lib.hid hnw
            clear hlk hS hgE hMA hMr hm hwf hc HO
            go_wp2_with (first | (at_builtin; refine wpList_append_own _ rfl _ _ 34 rfl w8.heap.size 30 i0 (.agg #[.int .i64 0, .int .i64 0, .int .i64 0]) 3 24 Try.underlying34 hi q0 q1 q2 rfl (by decide) _ _ _ rfl ((HO'.alloc _).alloc _) ⟨wr.heap.size + 1, 0, none⟩ 1 1 [.int .i64 a1, .int .i64 a2, .int .i64 a3] rfl rfl hnw.out (fun u hu => by simp at hu; rcases hu with rfl | rfl | rfl <;> rfl) (by unfold maxLen; omega) (by omega) (by simp; omega) ?_; intro v' w3 hown3 hg3 _) | go_in)
            have HBW3 : Below w8.heap.size w8 w3 := ((HBr.out.alloc hzr _).alloc (by simp; omega) _).grown hg3 (by simp; omega) (fun k e => (HO'.lt k e).1)
            exact ⟨⟨j + 1, by omega, by go_num, Lib.hid (by rw [HK.out]; exact hown3), Lib.hid HBW3⟩, by simp [RowKit.intOf]; omega⟩
          · obtain rfl : j = E.length := by omega
            have ho := HO.out
            rw [List.take_length] at ho
            obtain ⟨pv, cv, rfl⟩ := own_slice ho
            have HOB : Hid (∀ a, pv = some a → w.heap.size ≤ a.block) := Lib.hid (fun a ha => Nat.le_trans HB8.out.size (own_base ho a ha))
            have hH := hrs_own (L := E.map gE) (by rw [List.length_map]; exact ho)
            rw [List.length_map] at hH
            have HF2 : Hid (HrsIn wr pv E.length (fun j => (stt D W f k (E.getD j 0)).2)) := Lib.hid (hH.congr (fun j hj => by
              have e : gE (E.getD j 0) = (stt D W f k (E.getD j 0)).2 := by rw [HGE.out]
              rw [← e, getD_at E 0 hj, getD_at (E.map gE) (0, 0, 0) (by rw [List.length_map]; exact hj), List.getElem_map]))
            have HF3 : Hid (Below w.heap.size w wr) := Lib.hid (HB8.out.trans (HBr.out.mono HB8.out.size))
            clear HO HBr ho hH HB8 HE8 HM8 HGE HWF
            go_wp2
            go_ret
            exact ⟨E, pv, cv, rfl, fun _ => ⟨HF1.out.1, HF1.out.2.1, HF1.out.2.2, HF2.out⟩, fun h => absurd rfl h, HOB.out, HF3.out⟩
  · replace HK := Lib.hid HK
    have e0 : (C != 0) = true := by simpa using h0
    have h0' : ¬ C = 0 := h0
    clear hC h
    go_enter Try.func11, Try.ntmps11
    go_wp2_with fail
    rw [← hW1]
    clear hW1
    refine (HK.out).mono ?_
    rintro e w4 ⟨rfl, hb4⟩
    have hb5 := hb0.trans (hb4.mono (by omega))
    clear hb4 hb0 c0 c1 HK hz1
    go_wp2
    go_ret
    exact ⟨[], none, 0, rfl, fun h => absurd h h0, fun _ => rfl, (fun a ha => by cases ha), hb5⟩

end Go.Proofs.Ytlfflnfodnegnaa
