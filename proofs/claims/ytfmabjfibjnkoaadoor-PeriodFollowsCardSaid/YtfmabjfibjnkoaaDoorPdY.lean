/-
  What is proved: the contracts of the document's own Year, and of the statements' of and same. Conditions: the calendar and the year are right; the periods lie in memory as the contract says.
-/
import Derived.Test.YtfmabjfibjnkoaaDoorPdS
import Derived.BigQuiet
import Derived.Deep.QuietTactic
namespace Go.Proofs.YtfmabjfibjnkoaaDoor
open Go Go.RowKit Go.Proofs
set_option linter.unusedVariables false

theorem spans_any (k f l y : Int) (w : World) (hc : chkC k f l = 0) (hy1 : 1900 ≤ y) (hy2 : y ≤ 2199) : Calls Tryd.prog 33 #[.agg #[.int .i64 k, .int .i64 f, .int .i64 l], .int .i64 y] w (SpPost k f y w) := by
  obtain ⟨hk, hf, -, -⟩ := chkC_zero hc
  rcases hk with rfl | hk
  · exact spans_month f l y w hy1 hy2
  · exact spans_days k f l y w hk hf hy1 hy2
theorem infoRPer : (Tryd.prog.info? 48).map (fun i => (i.zero, i.size, i.bytes)) = some (some (.agg #[.int .i64 0, .int .i64 0, .int .i64 0, .int .i64 0, .int .i64 0, .int .i64 0]), 6, 48) := by kernel_rfl
theorem PersIn.of_own {w : World} {base : Nat} {E : TypeId} {p : Option Addr} {n c : Nat} {y N l : Int} {K : List (Int × Int)} (h : w.ownsRow base E 6 (.slice p n c) K.length (perC y N l 0 K)) : PersIn w p y N l K := by
  by_cases e : K.length = 0
  · exact .inl (List.eq_nil_of_length_eq_zero e)
  · obtain ⟨g, c', hv, -, -, -, hc, -⟩ := own_cells h (by omega)
    injection hv with hv
    subst hv
    refine .inr ⟨g, 0, rfl, fun j hj => ?_⟩
    obtain ⟨a, b, d, e, f, i⟩ := perC_at y N l K 0 j hj
    rw [Nat.zero_add]
    rw [Nat.zero_add] at b
    exact ⟨hc _ _ a, hc _ _ b, hc _ _ d, hc _ _ e, hc _ _ f, hc _ _ i⟩
theorem take_snoc2 (K : List (Int × Int)) {i : Nat} (h : i < K.length) : K.take (i + 1) = K.take i ++ [K.getD i (0, 0)] := by
  rw [List.take_succ_eq_append_getElem h]; simp [List.getD, h]
theorem own_snoc {w : World} {base : Nat} {E : TypeId} {v : Value} {y n l a b p : Int} {K : List (Int × Int)} {i : Nat} (hi : i < K.length) (he : K.getD i (0, 0) = (a, b)) (hp : payV b l = p) (h : w.ownsRow base E 6 v (i + 1) (perC y n l 0 (K.take i) ++ [.int .i64 y, .int .i64 ((i : Int) + 1), .int .i64 n, .int .i64 a, .int .i64 b, .int .i64 p])) :
    w.ownsRow base E 6 v (i + 1) (perC y n l 0 (K.take (i + 1))) := by
  rw [take_snoc2 K hi, he, perC_app, show ((0 + (K.take i).length + 1 : Nat) : Int) = (i : Int) + 1 by rw [List.length_take]; omega]
  dsimp only
  rw [hp]
  exact h

set_option maxHeartbeats 4000000 in
set_option maxRecDepth 100000 in
theorem rYear_any (k f l y : Int) (w : World) (hc : chkC k f l = 0) (hy1 : 1900 ≤ y) (hy2 : y ≤ 2199) : Calls Tryd.prog 18 #[.agg #[.int .i64 k, .int .i64 f, .int .i64 l], .int .i64 y] w (PerPost k f l y w) := by
  obtain ⟨-, -, l1, l2⟩ := chkC_zero hc
  obtain ⟨W1, hW1⟩ : ∃ W1, W1 = w.alloc (.cells #[.int .i64 k, .int .i64 f, .int .i64 l] 39) := ⟨_, rfl⟩
  have hb0 : Below w.heap.size w W1 := by rw [hW1]; exact (Below.refl w.heap.size w).alloc (Nat.le_refl _) _
  have x2 : W1.cell? ⟨w.heap.size, 2, none⟩ = some (.int .i64 l) := by rw [hW1, World.cell?_alloc_new]; rfl
  have HSP := Lib.hid (spans_any k f l y W1 hc hy1 hy2)
  clear hc
  go_enter Tryd.func18, Tryd.ntmps18
  go_wp2_with fail
  rw [← hW1]
  clear hW1
  refine (HSP.out).mono ?_
  rintro e w2 ⟨K, p, c, hIY, rfl, hS, hb2⟩
  have hKl := hIY.len
  have HBD : Hid (∀ i, i < K.length → -25567 ≤ (K.getD i (0, 0)).2 ∧ (K.getD i (0, 0)).2 ≤ 84006) := Lib.hid (fun i hi => by
    rw [getD_ix2 hi]
    obtain ⟨h1, h2, h3, h4, h5⟩ := (hIY.2 K[i]).1 (List.getElem_mem hi)
    have := h1.len
    omega)
  have HIY := Lib.hid hIY
  have HS := Lib.hid hS
  have y2 := stay hb2 x2
  have hb3 := hb0.trans (hb2.mono hb0.size)
  have hz2 := hb2.size
  have hwz : w.heap.size < w2.heap.size := Nat.lt_of_lt_of_le (World.block_lt_of_cell? _ _ x2) hz2
  obtain ⟨n, hn⟩ : ∃ n, n = K.length := ⟨_, rfl⟩
  have HN := Lib.hid hn
  have hO : Hid (w2.ownsRow w2.heap.size 48 6 (.slice none 0 0) 0 (perC y n l 0 (K.take 0))) := Lib.hid (World.ownsRow_nil _ _ _ _)
  rw [← hn] at hKl ⊢
  clear hIY hS x2 hb2 hn HSP hb0 hz2
  go_wp2
  go_loopw [6, 7] (fun lv iv wr => ∃ i : Nat, i ≤ n ∧ iv = .int .i64 i ∧ Hid (wr.ownsRow w2.heap.size 48 6 lv i (perC y n l 0 (K.take i))) ∧ Below w2.heap.size w2 wr) (fun _ iv _ => n - (RowKit.intOf iv).toNat)
  case atStart => exact ⟨0, by omega, rfl, hO, Below.refl _ _⟩
  case round =>
    clear hO
    obtain ⟨i, hi, rfl, HO, hb⟩ := hrel
    obtain ⟨q, cq, rfl, -⟩ := own_slice HO.out
    by_cases hlt : i < n
    · have hiI : (i : Int) < (n : Int) := by omega
      have hiK : i < K.length := by have := HN.out; omega
      rcases (HS.out.below hb) with h | ⟨bb, o, rfl, hcc⟩
      · rw [h] at hiK; simp at hiK
      obtain ⟨z0, z1⟩ := hcc i hiK
      have z2 := stay hb y2
      obtain ⟨d1, d2⟩ := HBD.out i hiK
      obtain ⟨⟨a, b⟩, hab⟩ : ∃ s, K.getD i (0, 0) = s := ⟨_, rfl⟩
      rw [hab] at z0 z1 d1 d2
      dsimp only at z0 z1 d1 d2
      have HSN : Hid (∀ (v : Value) (W : World) (P : Int), payV b l = P → W.ownsRow w2.heap.size 48 6 v (i + 1) (perC y n l 0 (K.take i) ++ [.int .i64 y, .int .i64 ((i : Int) + 1), .int .i64 n, .int .i64 a, .int .i64 b, .int .i64 P]) → W.ownsRow w2.heap.size 48 6 v (i + 1) (perC y n l 0 (K.take (i + 1)))) := Lib.hid (fun v W P hp h => own_snoc hiK hab hp h)
      have hB := hb.size
      have i1 : IntKind.i64.wrap (b - 1) = b - 1 := IntWalk.i64_in _ (by omega)
      have i2 : IntKind.i64.wrap (b - 1 + l) = b - 1 + l := IntWalk.i64_in _ (by omega)
      clear hcc hab HBD hiK
      by_cases hp : 84006 ≤ b - 1 + l
      · have HP : Hid (payV b l = 84005) := Lib.hid (by unfold payV; omega)
        clear d1 d2
        go_wp2
        go_quiet (fail)
        go_wp2_with (at_builtin; refine app_arm Tryd.underlying45 infoRPer rfl (by omega) (by omega) w2.heap.size (wr.drewN nq) _ i _ HO.out 1 [.int .i64 y, .int .i64 ((i : Int) + 1), .int .i64 n, .int .i64 a, .int .i64 b, .int .i64 84005] rfl (fun u hu => by simp at hu; rcases hu with rfl | rfl | rfl | rfl | rfl | rfl <;> rfl) (by omega) hB rfl _ _ rfl rfl rfl ?_; intro v' w6 ho hgr)
        have hb6 : Below w2.heap.size w2 w6 := ((below_drewN hb nq).alloc hB _).grown hgr (by simp; omega) (fun k hk => (HO.out.lt k hk).1)
        exact ⟨⟨i + 1, by omega, by go_num, Lib.hid (HSN.out _ _ _ HP.out ho), hb6⟩, by simp [RowKit.intOf]; omega⟩
      · have HP : Hid (payV b l = b - 1 + l) := Lib.hid (by unfold payV; omega)
        clear d1 d2
        go_wp2
        go_quiet (fail)
        go_wp2_with (at_builtin; refine app_arm Tryd.underlying45 infoRPer rfl (by omega) (by omega) w2.heap.size (wr.drewN nq) _ i _ HO.out 1 [.int .i64 y, .int .i64 ((i : Int) + 1), .int .i64 n, .int .i64 a, .int .i64 b, .int .i64 (b - 1 + l)] rfl (fun u hu => by simp at hu; rcases hu with rfl | rfl | rfl | rfl | rfl | rfl <;> rfl) (by omega) hB rfl _ _ rfl rfl rfl ?_; intro v' w6 ho hgr)
        have hb6 : Below w2.heap.size w2 w6 := ((below_drewN hb nq).alloc hB _).grown hgr (by simp; omega) (fun k hk => (HO.out.lt k hk).1)
        exact ⟨⟨i + 1, by omega, by go_num, Lib.hid (HSN.out _ _ _ HP.out ho), hb6⟩, by simp [RowKit.intOf]; omega⟩
    · obtain rfl : i = n := by omega
      have hPI : PersIn wr q y i l K := PersIn.of_own (n := i) (c := cq) (base := w2.heap.size) (E := 48) (by
        have := HO.out
        rw [HN.out, List.take_length] at this
        rw [HN.out]
        exact this)
      have HPI := Lib.hid hPI
      have hbF := hb3.trans (hb.mono hb3.size)
      clear hPI HO
      go_wp2
      go_ret
      refine ⟨K, q, cq, HIY.out, ?_, ?_, hbF⟩
      · rw [← HN.out]; rfl
      · rw [← HN.out]; exact HPI.out

theorem of_any (k f l : Int) (w : World) : Calls Tryd.prog 14 #[.agg #[.int .i64 k, .int .i64 f, .int .i64 l]] w fun e w' => e = .returned (.agg #[.int .i64 k, .int .i64 f, .int .i64 l]) ∧ Below w.heap.size w w' := by
  go_enter Tryd.func14, Tryd.ntmps14
  go_wp2
  exact bodyPost_ret (v := .agg #[.int .i64 k, .int .i64 f, .int .i64 l]) (by simp [results, Tryd.results14, go_sem]) rfl ⟨rfl, ((Below.refl _ _).alloc (Nat.le_refl _) _).alloc (by simp) _⟩

set_option maxHeartbeats 2000000 in
set_option maxRecDepth 100000 in
theorem same_any (p q : Option Addr) (c c' : Nat) (y l : Int) (K : List (Int × Int)) (w : World) (hK : K.length ≤ 400) (h1 : PersIn w p y K.length l K) (h2 : PersIn w q y K.length l K) :
    Calls Tryd.prog 17 #[.slice p K.length c, .slice q K.length c'] w fun e w' => e = .returned (.bool true) ∧ Below w.heap.size w w' := by
  have H1 := Lib.hid h1
  have H2 := Lib.hid h2
  obtain ⟨n, hn⟩ : ∃ n, n = K.length := ⟨_, rfl⟩
  have HN := Lib.hid hn
  rw [← hn] at hK H1 H2 ⊢
  clear h1 h2 hn
  go_enter Tryd.func17, Tryd.ntmps17
  go_wp2
  go_loopw [13] (fun iv wr => ∃ i : Nat, i ≤ n ∧ iv = .int .i64 i ∧ Below w.heap.size w wr) (fun iv _ => n - (RowKit.intOf iv).toNat)
  case atStart => exact ⟨0, by omega, rfl, Below.refl _ _⟩
  case round =>
    obtain ⟨i, hi, rfl, hb⟩ := hrel
    by_cases hlt : i < n
    · have hiI : (i : Int) < (n : Int) := by omega
      have hiK : i < K.length := by have := HN.out; omega
      rcases (H1.out.below hb) with h | ⟨b1, o1, rfl, hc1⟩
      · rw [h] at hiK; simp at hiK
      rcases (H2.out.below hb) with h | ⟨b2, o2, rfl, hc2⟩
      · rw [h] at hiK; simp at hiK
      obtain ⟨u0, u1, u2, u3, u4, u5⟩ := hc1 i hiK
      obtain ⟨v0, v1, v2, v3, v4, v5⟩ := hc2 i hiK
      clear hc1 hc2 hiK
      generalize payV (K.getD i (0, 0)).2 l = pv at *
      generalize (K.getD i (0, 0)).1 = A at *
      generalize (K.getD i (0, 0)).2 = B at *
      generalize ((i + 1 : Nat) : Int) = I at *
      go_wp2
      go_quiet (fail)
      go_wp2
      exact ⟨⟨i + 1, by omega, by go_num, below_drewN hb _⟩, by simp [RowKit.intOf]; omega⟩
    · obtain rfl : i = n := by omega
      go_wp2
      go_ret
      exact ⟨rfl, hb⟩

end Go.Proofs.YtfmabjfibjnkoaaDoor
