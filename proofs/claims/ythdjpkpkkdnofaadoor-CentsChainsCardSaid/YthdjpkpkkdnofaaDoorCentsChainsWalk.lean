/-
  What is proved: the walk of the statement CentsChains: the call returns true. Conditions: the table of powers of ten reads as the library lays it.
-/
import Derived.Test.YthdjpkpkkdnofaaDoorAwake
import Derived.Test.YthdjpkpkkdnofaaDoorSum
import Derived.Test.YthdjpkpkkdnofaaDoorIsRow
import Derived.Laws.AppendOwn
import Derived.Laws.OwnMore
import Derived.Lib.AppendZeros
namespace Go.Proofs.YthdjpkpkkdnofaaDoor
open Go Go.RowKit Go.Lib Go.Proofs
set_option linter.unusedVariables false

/-- The source of an append of amounts: nil, or a slice that leads to these amounts. -/
def RowS (w : World) (v : Value) (zs : List Int) : Prop :=
  (v = .slice none 0 0 ∧ zs = []) ∨ ∃ a cap, v = .slice (some a) zs.length cap ∧ ∀ j c, zs[j]? = some c → w.cell? (a.add j) = some (.int .i64 c)

def cellsOfInts (zs : List Int) : List Value := zs.map fun z => .int .i64 z

theorem rowS_of {w : World} {a : Option Addr} {len cap : Nat} {zs : List Int} (h : IsRow .i64 w a len cap zs) :
    ∃ ys, Row w (.slice a len cap) ys ∧ RowS w (.slice a len cap) ys ∧ ys.length = len ∧ ∀ n ∈ ys, (Lit.int .i64 n).wf = true := by
  have h' := h
  rcases h with ⟨rfl, rfl, rfl, rfl⟩ | ⟨x, rfl, hl, hm, hz, hc, hw⟩
  · exact ⟨[], ⟨none, 0, rfl, by simp [maxLen], .inl rfl⟩, .inl ⟨rfl, rfl⟩, rfl, fun _ h => by cases h⟩
  · obtain ⟨ys, h1, h2, h3⟩ := row_of h'
    refine ⟨zs.take len, ?_, ?_, by rw [List.length_take]; omega, fun n hn => hw n (List.mem_of_mem_take hn)⟩
    · have hlen : (zs.take len).length = len := by rw [List.length_take]; omega
      refine ⟨some x, cap, by rw [hlen], by omega, ?_⟩
      by_cases h0 : len = 0
      · left; rw [h0]; rfl
      · right
        obtain ⟨b, off, rfl, hc'⟩ := ints_at hc (by omega)
        refine ⟨b, off, rfl, fun i c hi => ?_⟩
        have hi' : i < len := by
          have := (List.getElem?_eq_some_iff.1 hi).1
          omega
        rw [List.getElem?_take, if_pos hi'] at hi
        have := hc' i (by omega)
        rw [this]
        simp [List.getD, hi]
    · right
      refine ⟨x, cap, by rw [List.length_take]; congr 1; omega, fun j c hj => ?_⟩
      have hj' : j < len := by
        have := (List.getElem?_eq_some_iff.1 hj).1
        rw [List.length_take] at this; omega
      rw [List.getElem?_take, if_pos hj'] at hj
      rw [hc j (by omega)]
      simp [List.getD, hj]

theorem RowS.below {w w' : World} {v : Value} {zs : List Int} (h : RowS w v zs) (hb : Below w.heap.size w w') : RowS w' v zs := by
  rcases h with h | ⟨a, cap, rfl, hc⟩
  · exact .inl h
  · refine .inr ⟨a, cap, rfl, fun j c hj => ?_⟩
    have h1 := hc j c hj
    have e : (a.add j).block < w.heap.size := World.block_lt_of_cell? w _ h1
    rw [hb.cell e]; exact h1

theorem intInfo : (Tryd.prog.info? 22).map (fun i => (i.zero, i.size, i.bytes)) = some (some (.int .i64 0), 1, 8) := by kernel_rfl

theorem run_append_rowS (base : Nat) (ty : TypeId) (w : World) (v : Value) (n : Nat) (xs : List Value) (hown : w.ownsRow base 22 1 v n xs) (xv : Value) (zs : List Int) (hx : RowS w xv zs) (hlim : n + zs.length ≤ 1000000) (hbase : base ≤ w.heap.size) :
    ∃ v' w', (Builtin.append_ #[31, 31] ty #[v, xv]).run Tryd.prog w = .ok v' w' ∧ w'.ownsRow base 22 1 v' (n + zs.length) (xs ++ cellsOfInts zs) ∧ w.grownBy w' v.ownBlock := by
  obtain ⟨i, hi, hz0, hz1, hz2⟩ := info_parts intInfo
  rcases hx with ⟨rfl, rfl⟩ | ⟨a, cap, rfl, hc⟩
  · refine ⟨v, w, run_append_owned_none (P := Tryd.prog) (w := w) base 31 ty 22 i 1 Tryd.underlying31 hi v n xs hown, ?_, ⟨rfl, rfl, rfl, Nat.le_refl _, fun _ _ _ => rfl⟩⟩
    simpa [cellsOfInts] using hown
  · obtain ⟨v', w', h1, h2, h3, _⟩ := run_append_own (P := Tryd.prog) w base 31 ty 22 i (.int .i64 0) 1 8 Tryd.underlying31 hi hz0 hz1 hz2 rfl (by decide) v n xs hown a zs.length cap (cellsOfInts zs) (by simp [cellsOfInts])
      (fun j u hu => by
        simp only [cellsOfInts, List.getElem?_map, Option.map_eq_some_iff] at hu
        obtain ⟨c, hc1, rfl⟩ := hu
        exact hc j c hc1)
      (fun u hu => by simp only [cellsOfInts, List.mem_map] at hu; obtain ⟨c, _, rfl⟩ := hu; rfl) (by unfold maxLen; omega) (by omega) hbase
    exact ⟨v', w', h1, h2, h3⟩

theorem row_of_own {w : World} {base : Nat} {v : Value} {n : Nat} {zs : List Int} (h : w.ownsRow base 22 1 v n (cellsOfInts zs)) (hn : n = zs.length) (hm : n ≤ maxLen) : Row w v zs := by
  subst hn
  rcases h.2 with ⟨rfl, h0⟩ | ⟨g, cap, cur, rfl, _, _, _⟩
  · have hz : zs = [] := List.eq_nil_of_length_eq_zero h0
    subst hz
    exact ⟨none, 0, rfl, hm, .inl rfl⟩
  · refine ⟨_, cap, rfl, hm, .inr ⟨g, 0, rfl, fun i c hi => ?_⟩⟩
    have := h.cells (g := g) rfl i (.int .i64 c) (by simp [cellsOfInts, hi])
    have e : (⟨g, 0, none⟩ : Addr).add i = ⟨g, 0 + i, none⟩ := by unfold Addr.add; split <;> simp_all
    rwa [e] at this

def small (c : Int) : Prop := -1099511627776 ≤ c ∧ c ≤ 1099511627776
def sumZ : List Int → Int
  | [] => 0
  | c :: r => c + sumZ r
theorem sumZ_append : ∀ (a b : List Int), sumZ (a ++ b) = sumZ a + sumZ b
  | [], b => by simp [sumZ]
  | c :: r, b => by simp only [List.cons_append, sumZ, sumZ_append r b]; omega
theorem sumZ_bd : ∀ (l : List Int), (∀ c ∈ l, small c) → -(l.length * 1099511627776) ≤ sumZ l ∧ sumZ l ≤ l.length * 1099511627776
  | [], _ => by simp [sumZ]
  | c :: r, h => by
    have h1 := h c (by simp)
    have h2 := sumZ_bd r (fun x hx => h x (by simp [hx]))
    unfold small at h1
    simp only [sumZ, List.length_cons]
    omega
theorem add_fits (a b : Int) (ha : -1125899906842624 ≤ a ∧ a ≤ 1125899906842624) (hb : -1125899906842624 ≤ b ∧ b ≤ 1125899906842624) (hs : -1125899906842624 ≤ a + b ∧ a + b ≤ 1125899906842624) : addV a b = a + b ∧ addE a b = 0 := by
  unfold addV addE inV inE
  simp [fitsB_yes ha.1 ha.2, fitsB_yes hb.1 hb.2, fitsB_yes hs.1 hs.2]
theorem sumVE_small (l : List Int) : ∀ (acc : Int), (∀ c ∈ l, small c) → -1125899906842624 + l.length * 1099511627776 ≤ acc → acc ≤ 1125899906842624 - l.length * 1099511627776 → sumVE acc l = (acc + sumZ l, 0) := by
  induction l with
  | nil => intro acc _ _ _; rw [sumVE, sumZ, Int.add_zero]
  | cons c r ih =>
    intro acc h h1 h2
    have hc := h c (by simp)
    unfold small at hc
    rw [List.length_cons] at h1 h2
    have hk : (0 : Int) ≤ r.length := by omega
    have e3 : (((r.length + 1 : Nat)) : Int) * 1099511627776 = r.length * 1099511627776 + 1099511627776 := by rw [Int.natCast_add]; omega
    rw [e3] at h1 h2
    obtain ⟨e1, e2⟩ := add_fits acc c (by omega) (by omega) (by omega)
    rw [sumVE, e1, e2, if_pos rfl, ih (acc + c) (fun x hx => h x (by simp [hx])) (by omega) (by omega), sumZ, Int.add_assoc]
theorem sum0_small (l : List Int) (h : ∀ c ∈ l, small c) (hl : l.length ≤ 200) : sumVE 0 l = (sumZ l, 0) := by
  rw [sumVE_small l 0 h (by omega) (by omega), Int.zero_add]

set_option maxHeartbeats 2000000 in
set_option maxRecDepth 100000 in
theorem walkCentsChains (a0 : Option Addr) (len0 cap0 : Nat) (z0 : List Int) (a1 : Option Addr) (len1 cap1 : Nat) (z1 : List Int) (w : World) (w0 : IsRow .i64 w a0 len0 cap0 z0) (w1 : IsRow .i64 w a1 len1 cap1 z1) (htab : TabIs Tryd.prog w "internal/strconv.uint64pow10" .u64 pow10Tab) :
    Calls Tryd.prog 9 #[.slice a0 len0 cap0, .slice a1 len1 cap1] w fun e w' => e = .returned (.bool true) ∧ Below w.heap.size w w' := by
  obtain ⟨xs, rx, sx, lx, -⟩ := rowS_of w0
  obtain ⟨ys, ry, sy, ly, -⟩ := rowS_of w1
  have hm0 : len0 ≤ maxLen := by obtain ⟨_, _, e, h, _⟩ := rx; rw [← lx]; exact h
  have hm1 : len1 ≤ maxLen := by obtain ⟨_, _, e, h, _⟩ := ry; rw [← ly]; exact h
  unfold maxLen at hm0 hm1
  clear w0 w1
  have H6 := Lib.hid (awake_any w htab)
  have HT := Lib.hid (tabBelow_of_tabIs htab)
  have LX := Lib.hid lx
  have LY := Lib.hid ly
  clear lx ly
  by_cases h0 : 100 < len0
  · go_enter Tryd.func9, Tryd.ntmps9
    go_wp2_with fail
    refine (H6.out).mono ?_
    rintro e w1 ⟨rfl, hb1⟩
    go_wp2
    go_ret
    exact ⟨rfl, hb1⟩
  by_cases h1 : 100 < len1
  · go_enter Tryd.func9, Tryd.ntmps9
    go_wp2_with fail
    refine (H6.out).mono ?_
    rintro e w1 ⟨rfl, hb1⟩
    go_wp2
    go_ret
    exact ⟨rfl, hb1⟩
  have q0 : decide ((100 : Int) < (len0 : Int)) = false := decide_eq_false (by omega)
  have q1 : decide ((100 : Int) < (len1 : Int)) = false := decide_eq_false (by omega)
  have hl0 : xs.length ≤ 100 := by rw [LX.out]; omega
  have hl1 : ys.length ≤ 100 := by rw [LY.out]; omega
  have hbA : Below w.heap.size w (w.alloc (.cells #[] 22)) := (Below.refl _ w).alloc (Nat.le_refl _) _
  have hown0 : (w.alloc (.cells #[] 22)).ownsRow w.heap.size 22 1 (.slice (some ⟨w.heap.size, 0, none⟩) 0 0) 0 [] := World.ownsRow_lit w #[] 0 (Nat.le_refl _) (by simp [maxLen]) (by simp)
  obtain ⟨v1, wA, hr1, hown1, hg1⟩ := run_append_rowS w.heap.size 31 _ _ 0 [] hown0 (.slice a0 len0 cap0) xs (sx.below hbA) (by omega) hbA.size
  have hb1 : Below w.heap.size w wA := hbA.grown hg1 hbA.size (fun k hk => (hown0.lt k hk).1)
  obtain ⟨v2, wB, hr2, hown2, hg2⟩ := run_append_rowS w.heap.size 31 _ _ _ _ hown1 (.slice a1 len1 cap1) ys (sy.below hb1) (by omega) hb1.size
  have hb2 : Below w.heap.size w wB := hb1.grown hg2 hb1.size (fun k hk => (hown1.lt k hk).1)
  have hrow : Row wB v2 (xs ++ ys) := row_of_own (base := w.heap.size) (n := 0 + xs.length + ys.length) (by simpa [cellsOfInts] using hown2) (by simp) (by unfold maxLen; omega)
  have hsum := sum_row _ _ wB hrow
  have hsx := sum_row _ _ wB (rx.below hb2)
  have hsy := sum_row _ _ wB (ry.below hb2)
  have H7 := Lib.hid (awake_any wB (HT.out wB hb2))
  obtain ⟨ao, cap, hv2, hmx, hcells⟩ := hrow
  obtain ⟨n, hn⟩ : ∃ n, n = (xs ++ ys).length := ⟨_, rfl⟩
  rw [← hn] at hv2 hmx
  have hn2 : n ≤ 200 := by rw [hn, List.length_append]; omega
  rw [hv2] at hr2 hsum
  have R1 := Lib.hid hr1
  have R2 := Lib.hid hr2
  have S1 := Lib.hid hsx
  have S2 := Lib.hid hsy
  have S3 := Lib.hid hsum
  have HC := Lib.hid hcells
  have HN := Lib.hid hn
  have B1 := Lib.hid hb1
  have B2 := Lib.hid hb2
  have L0 := Lib.hid hl0
  have L1 := Lib.hid hl1
  clear hr1 hr2 hsx hsy hsum hcells hn hown0 hown1 hown2 hg1 hg2 hbA hb1 hb2 hv2 rx ry sx sy H6 hl0 hl1
  go_enter Tryd.func9, Tryd.ntmps9
  go_wp2_with (first | (at_builtin; refine Lib.wpList_append_run _ rfl _ _ 31 31 rfl (.slice (some ⟨w.heap.size, 0, none⟩) 0 0) (.slice a0 len0 cap0) rfl rfl v1 wA (R1.out) ?_) | (at_builtin; refine Lib.wpList_append_run _ rfl _ _ 31 31 rfl v1 (.slice a1 len1 cap1) rfl rfl (.slice ao n cap) wB (R2.out) ?_))
  go_loop [6] (fun i => ∃ k : Nat, k ≤ n ∧ i = .int .i64 k ∧ Hid (∀ c ∈ (xs ++ ys).take k, small c)) (fun i => n - (RowKit.intOf i).toNat)
  case atStart => exact ⟨0, Nat.zero_le _, rfl, Lib.hid (by simp)⟩
  case round =>
    obtain ⟨k, hk, rfl, HK⟩ := hrel
    by_cases hlt : k < n
    · have hkl : k < (xs ++ ys).length := by rw [← HN.out]; exact hlt
      obtain ⟨c, hc⟩ : ∃ c, (xs ++ ys)[k]? = some c := ⟨_, List.getElem?_eq_getElem hkl⟩
      rcases HC.out with h0 | ⟨b, off, hao, hcell⟩
      · rw [h0] at hkl; exact absurd hkl (Nat.not_lt_zero _)
      · subst hao
        have hck := hcell k c hc
        have HG := Lib.hid hc
        clear hc hcell hkl
        by_cases c1 : 1099511627776 < c
        · go_wp2_with fail
          refine (H7.out).mono ?_
          rintro e w1 ⟨rfl, hb1⟩
          go_wp2
          go_ret
          exact ⟨rfl, B2.out.trans (hb1.mono B2.out.size)⟩
        by_cases c2 : c < -1099511627776
        · go_wp2_with fail
          refine (H7.out).mono ?_
          rintro e w1 ⟨rfl, hb1⟩
          go_wp2
          go_ret
          exact ⟨rfl, B2.out.trans (hb1.mono B2.out.size)⟩
        have HK2 : Hid (∀ x ∈ (xs ++ ys).take (k + 1), small x) := Lib.hid (by
          intro x hx
          rw [List.take_add_one, HG.out] at hx
          rcases List.mem_append.1 hx with h | h
          · exact HK.out x h
          · simp at h; rw [h]; unfold small; omega)
        go_wp2
        go_round
        case rel => exact ⟨k + 1, by omega, by go_num, HK2⟩
        case measure => simp [RowKit.intOf]; omega
    · have hall : ∀ c ∈ xs ++ ys, small c := by
        have h := HK.out
        rwa [List.take_of_length_le (by rw [← HN.out]; omega)] at h
      have hxs : ∀ c ∈ xs, small c := fun c hc => hall c (List.mem_append_left _ hc)
      have hys : ∀ c ∈ ys, small c := fun c hc => hall c (List.mem_append_right _ hc)
      have l0 := L0.out
      have l1 := L1.out
      have e1 := sum0_small xs hxs (by omega)
      have e2 := sum0_small ys hys (by omega)
      have e3 := sum0_small (xs ++ ys) hall (by rw [List.length_append]; omega)
      rw [sumZ_append] at e3
      have b1 := sumZ_bd xs hxs
      have b2 := sumZ_bd ys hys
      have s1 := S1.out
      have s2 := S2.out
      have s3 := S3.out
      rw [e1] at s1
      rw [e2] at s2
      rw [e3] at s3
      have s4 := add_any (sumZ xs) (sumZ ys) wB
      obtain ⟨f1, f2⟩ := add_fits (sumZ xs) (sumZ ys) (by omega) (by omega) (by omega)
      rw [f1, f2] at s4
      have T1 := Lib.hid s1
      have T2 := Lib.hid s2
      have T3 := Lib.hid s3
      have T4 := Lib.hid s4
      clear s1 s2 s3 s4 e1 e2 e3 f1 f2 b1 b2 hall hxs hys l0 l1 S1 S2 S3 HK
      go_wp2_with fail
      refine (T1.out).mono ?_
      rintro e w' ⟨rfl, rfl⟩
      go_wp2_with fail
      refine (T2.out).mono ?_
      rintro e w' ⟨rfl, rfl⟩
      go_wp2_with fail
      refine (T3.out).mono ?_
      rintro e w' ⟨rfl, rfl⟩
      go_wp2_with fail
      refine (T4.out).mono ?_
      rintro e w' ⟨rfl, rfl⟩
      go_wp2_with fail
      refine (H7.out).mono ?_
      rintro e w1 ⟨rfl, hb1⟩
      go_wp2
      go_ret
      exact ⟨rfl, B2.out.trans (hb1.mono B2.out.size)⟩

end Go.Proofs.YthdjpkpkkdnofaaDoor
