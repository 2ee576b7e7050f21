/-
  What is proved: texts of other seats, joined for this one: what each theorem says. Conditions: as each says.
-/
import Derived.Test.YtogdiiengbmiiaaDoorTaSpA
import Derived.Test.YtogdiiengbmiiaaDoorShelfB
import Derived.StillTailTactics
import Derived.IntWalk
namespace Go.Proofs.YtogdiiengbmiiaaDoor.Sp
open Go Go.RowKit Go.Proofs Go.Shelf Go.Lib Go.Sort

def encEv (e : Ev) : List Value := [.int .i64 e.1, .int .i64 e.2.1, .int .i64 e.2.2]
theorem ltEv (x y : Ev) : ltOf (fun x y : Ev => Lib.compareInt x.1 y.1) x y = decide (x.1 < y.1) := by
  unfold ltOf Lib.compareInt
  by_cases h1 : x.1 < y.1
  · simp [h1]
  · by_cases h2 : y.1 < x.1 <;> simp [h1, h2]
theorem swoEv : SWO (ltOf fun x y : Ev => Lib.compareInt x.1 y.1) where
  irrefl x := by rw [ltEv]; simp
  trans x y z h1 h2 := by rw [ltEv] at *; simp at *; omega
  ntrans x y z h1 h2 := by rw [ltEv] at *; simp at *; omega
set_option maxHeartbeats 1000000 in
theorem byDay_any (x y : Ev) (W : World) : Calls Tryd.prog 40 #[.agg #[.int .i64 x.1, .int .i64 x.2.1, .int .i64 x.2.2], .agg #[.int .i64 y.1, .int .i64 y.2.1, .int .i64 y.2.2]] W fun e w' => e = .returned (.int .i64 (Lib.compareInt x.1 y.1)) ∧ ∃ q os', w' = Sort.grow (W.drewN q) os' := by
  have hcon := fun W' => AnyG.cmp_Compare_int Tryd.laysCompare x.1 y.1 W'
  change ∀ W', Calls Tryd.prog 41 _ _ _ at hcon
  generalize Lib.compareInt x.1 y.1 = r at hcon ⊢
  go_enter Tryd.func40, Tryd.ntmps40
  go_wp2_with (go_at_call 41; refine (hcon _).mono ?_; rintro e w' ⟨rfl, rfl⟩)
  go_ret
  exact ⟨rfl, 0, _, by rw [alloc_eq_grow, alloc_eq_grow, grow_grow]; rfl⟩
theorem byDay_lays (blk off size : Nat) (w : World) : CmpLays Tryd.prog 40 #[] encEv 3 (fun x y => Lib.compareInt x.1 y.1) blk off size w :=
  fun _ _ _ _ x y => byDay_any x y _

/-- What sorting ends leaves. -/
def SortedEnds (B : Nat) (v : Value) (E : List Ev) (w : World) (e : Ending) (w' : World) : Prop :=
  e = .returned (.tuple #[]) ∧ ∃ (E' : List Ev) (p : Option Addr) (c : Nat), v = .slice p E'.length c ∧ E'.Perm E ∧ (∀ i, i + 1 < E'.length → (E'.getD i (0, 0, 0)).1 ≤ (E'.getD (i + 1) (0, 0, 0)).1) ∧ EvsIn w' p E' ∧ w.grownBy w' v.ownBlock ∧ RowKit.Below B w w'
theorem arr_getD {α : Type} [Inhabited α] (L : List α) (i : Nat) (h : i < L.length) (z : α) : L.toArray[i]! = L.getD i z := by
  rw [getD_at L z h, getElem!_pos _ i (by simpa using h)]; simp
theorem holds_own {w : World} {B : Nat} {E : List Ev} {g c : Nat} (ho : w.ownsRow B 85 3 (.slice (some ⟨g, 0, none⟩) E.length c) E.length (evC E)) : HoldsK encEv 3 w g 0 E.toArray := by
  intro j hj
  have hj' : j < E.length * 3 := by simpa using hj
  rw [Nat.zero_add]
  refine ⟨?_, ho.frozenAt j⟩
  have hc := ho.cells (g := g) rfl j
  rw [add_at] at hc
  rw [hc _ ?_]
  rw [get_flatK _ _ _ _ (by simpa using hj'), arr_getD E (j / 3) (by omega) (0, 0, 0)]
  obtain ⟨a, b, d⟩ := evC_at E (j / 3) (by omega)
  rcases (show j % 3 = 0 ∨ j % 3 = 1 ∨ j % 3 = 2 by omega) with h | h | h
  · rw [show j / 3 * 3 = j by omega] at a; rw [h, a]; rfl
  · rw [show j / 3 * 3 + 1 = j by omega] at b; rw [h, b]; rfl
  · rw [show j / 3 * 3 + 2 = j by omega] at d; rw [h, d]; rfl
theorem sortWorld_grown {g : Nat} (w : World) (n : Nat) (d : Array Ev) (os : Array Obj) : w.grownBy (sortWorldK encEv 3 w g 0 n d os) (some g) := by
  have hsz : (putRowK encEv 3 (Sort.ahead w n) g 0 d).heap.size = w.heap.size := by simp [putRowK, putRow, mapBlock, Sort.ahead]
  refine ⟨rfl, rfl, rfl, ?_, fun k hk hne => ?_⟩
  · show w.heap.size ≤ (Sort.grow (putRowK encEv 3 (Sort.ahead w n) g 0 d) os).heap.size
    rw [size_grow, hsz]; omega
  · show (Sort.grow (putRowK encEv 3 (Sort.ahead w n) g 0 d) os).heap[k]? = _
    rw [heap_grow_old _ _ (by rw [hsz]; omega)]
    simp only [putRowK, putRow, mapBlock, Sort.ahead, Array.getElem?_modify]
    rw [if_neg (fun e => hne (by rw [e]))]
set_option maxRecDepth 100000 in
theorem sortEnds_any (B : Nat) (v : Value) (E : List Ev) (w : World) (ho : w.ownsRow B 85 3 v E.length (evC E)) (hn : E.length ≤ 1000000) :
    Calls Tryd.prog 39 #[v, .func (.func 40) #[] #[]] w (SortedEnds B v E w) := by
  by_cases h0 : E.length = 0
  · obtain rfl := List.eq_nil_of_length_eq_zero h0
    obtain ⟨p, c, rfl, -⟩ := own_slice ho
    have hcon := AnyF.slices_SortFunc_none Tryd.laysSortFunc p c (.func (.func 40) #[] #[]) w
    change Calls Tryd.prog 39 _ _ _ at hcon
    refine hcon.mono ?_
    rintro e w' ⟨rfl, rfl⟩
    exact ⟨rfl, [], p, c, rfl, List.Perm.nil, (fun i hi => by simp at hi), .inl rfl, World.grownBy.refl _ _, Below.refl _ _⟩
  · obtain ⟨g, c, rfl, hg0, hg1, -, -⟩ := own_cells ho (by omega)
    have hH := holds_own ho
    have eg : ∀ args w, (callFunc 40 args).run Tryd.prog w = .ok (.enter 40 args) w := enters_of Tryd.func40 (by kernel_rfl) rfl
    have hcon := AnyQ.slices_SortFunc Tryd.laysSortFunc 3 Tryd.isAgg85 Tryd.sizeOf85 encEv (fun _ => rfl) (fun x v hv => by simp [encEv] at hv; rcases hv with rfl | rfl | rfl <;> rfl) (fun x y => Lib.compareInt x.1 y.1) swoEv 40 #[] g 0 c E.toArray w eg (byDay_lays _ _ _ _) hH hg1 (by simp; omega)
    change Calls Tryd.prog 39 _ _ _ at hcon
    rw [List.size_toArray] at hcon
    refine hcon.mono ?_
    rintro e w' ⟨rfl, d', n, os, ⟨hp1, -, hp2⟩, hs, rfl⟩
    have hlen : d'.toList.length = E.length := by simpa using hp1
    have hd' : d' = d'.toList.toArray := by simp
    refine ⟨rfl, d'.toList, some ⟨g, 0, none⟩, c, by rw [hlen], ?_, fun i hi => ?_, .inr ⟨g, 0, rfl, fun j hj => ?_⟩, sortWorld_grown w n d' os, (Below.refl B w).grown (sortWorld_grown w n d' os) (by omega) (fun k hk => by injection hk with hk; omega)⟩
    · have hsz : d'.size = E.length := by simpa using hlen
      rw [← hsz, Array.extract_size] at hp2
      rw [show E.toArray.extract 0 d'.size = E.toArray by rw [hsz, ← List.size_toArray, Array.extract_size]] at hp2
      simpa using hp2
    · have h := hs i (i + 1) (by omega) (by omega) (by omega)
      rw [ltEv, hd', arr_getD _ i (by omega) (0, 0, 0), arr_getD _ (i + 1) hi (0, 0, 0)] at h
      have := of_decide_eq_false h
      omega
    · have hK := holdsK_sortWorldK_c encEv 3 w g 0 E.toArray d' n os hH hg1 (by simpa using hlen)
      have hj' : j < d'.size := by simpa using hj
      have e0 := (hK.cell (i := j) (c := 0) hj' (by omega)).1
      have e1 := (hK.cell (i := j) (c := 1) hj' (by omega)).1
      have e2 := (hK.cell (i := j) (c := 2) hj' (by omega)).1
      have hat : d'[j]! = d'.toList.getD j (0, 0, 0) := by
        have := arr_getD d'.toList j hj (0, 0, 0)
        rwa [← hd'] at this
      rw [hat] at e0 e1 e2
      exact ⟨e0, e1, e2⟩


open Go Go.RowKit Go.Proofs

theorem sumL_bd {E : Nat → Ev} {n : Nat} (h : ∀ i, i < n → -1 ≤ (E i).2.1 ∧ (E i).2.1 ≤ 1) : ∀ k, k ≤ n → -(k : Int) ≤ sumL E k ∧ sumL E k ≤ k
  | 0, _ => ⟨Int.le_refl _, Int.le_refl _⟩
  | k + 1, hk => by
    have := sumL_bd h k (by omega)
    have := h k (by omega)
    unfold sumL
    omega
theorem sumR_bd {E : Nat → Ev} {n : Nat} (h : ∀ i, i < n → -1 ≤ (E i).2.2 ∧ (E i).2.2 ≤ 1) : ∀ k, k ≤ n → -(k : Int) ≤ sumR E k ∧ sumR E k ≤ k
  | 0, _ => ⟨Int.le_refl _, Int.le_refl _⟩
  | k + 1, hk => by
    have := sumR_bd h k (by omega)
    have := h k (by omega)
    unfold sumR
    omega
/-- Numbers of 64 bits. -/
def in64 (x : Int) : Prop := -9223372036854775808 ≤ x ∧ x ≤ 9223372036854775807
/-- A set of days, as a value of a call's own: its spans' list. -/
def SetOwn (B N : Nat) (P : Int → Bool) (w : World) (e : Ending) (w' : World) : Prop :=
  ∃ (K : List Sp) (p : Option Addr) (c : Nat), e = .returned (.agg #[.slice p K.length c]) ∧ Canon K ∧ (∀ d, Mem K d ↔ P d = true) ∧ (∀ s ∈ K, in64 s.1 ∧ in64 s.2) ∧ K.length ≤ N ∧ K.length ≤ c ∧ (∀ a, p = some a → B ≤ a.block ∧ a.spot = none) ∧ SpansIn w' p K ∧ Below B w w'
theorem evs_getD (L : List Ev) : evs (fun i => L.getD i (0, 0, 0)) L.length = L := by
  apply List.ext_getElem
  · simp [evs]
  · intro i h1 h2
    simp [evs, h2]

set_option maxHeartbeats 2000000 in
set_option maxRecDepth 100000 in
theorem walk_any (B g : Nat) (kp : Bool → Bool → Bool) (v : Value) (E : List Ev) (As Bs : List Sp) (w : World) (hE : E = endsL As ++ endsR Bs) (hn : E.length ≤ 100000) (hkp : kp false false = false) (h64 : ∀ e ∈ E, in64 e.1) (h1 : ∀ e ∈ E, -1 ≤ e.2.1 ∧ e.2.1 ≤ 1 ∧ -1 ≤ e.2.2 ∧ e.2.2 ≤ 1)
    (ho : w.ownsRow B 85 3 v E.length (evC E)) (hB : B ≤ w.heap.size) (eg : ∀ args w, (callFunc g args).run Tryd.prog w = .ok (.enter g args) w) (hk : ∀ a b W, Calls Tryd.prog g #[.bool a, .bool b] W fun e w' => e = .returned (.bool (kp a b)) ∧ W = w') :
    Calls Tryd.prog 21 #[v, .func (.func g) #[] #[]] w (SetOwn B E.length (fun d => kp (hasB As d) (hasB Bs d)) w) := by
  have hb0 := (Below.refl B w).alloc hB (.cells #[.slice none 0 0] 50)
  have HS := Lib.hid (sortEnds_any B v E (w.alloc (.cells #[.slice none 0 0] 50)) (ho.alloc _) (by omega))
  have HK := Lib.hid hk
  have HE := Lib.hid hE
  have H64 := Lib.hid h64
  have H1 := Lib.hid h1
  have HKP := Lib.hid hkp
  clear hk hE h64 h1 hkp
  go_enter Tryd.func21, Tryd.ntmps21
  go_wp2_with fail
  refine (HS.out).mono ?_
  rintro e W1 ⟨rfl, F, p, c, rfl, hperm, hsort, hin, hgr, hb1⟩
  have hb2 := hb0.trans hb1
  have hnb : some w.heap.size ≠ (Value.slice p F.length c).ownBlock := fun h => by have := (ho.lt _ h.symm).2; omega
  have hrc1 : W1.cell? ⟨w.heap.size, 0, none⟩ = some (.slice none 0 0) := hgr.cell (a := ⟨w.heap.size, 0, none⟩) (by rw [World.cell?_alloc_new]; rfl) hnb
  have hrc2 : W1.frozen? ⟨w.heap.size, 0, none⟩ = false := by
    rw [World.frozen?_of_block (a := ⟨w.heap.size, 0, none⟩) (hgr.block w.heap.size (by simp) hnb)]
    simp [World.frozen?_alloc_mark]
  have HP := Lib.hid hperm
  have HR := Lib.hid hsort
  have HI := Lib.hid hin
  have hlen : F.length = E.length := hperm.length_eq
  obtain ⟨n, hnl⟩ : ∃ n, n = F.length := ⟨_, rfl⟩
  have HN := Lib.hid hnl
  have hn2 : n ≤ 100000 := by omega
  have HEV := Lib.hid (show n = E.length by omega)
  have hz1 := hb1.size
  have hbl1 : ∀ e ∈ F, -1 ≤ e.2.1 ∧ e.2.1 ≤ 1 ∧ -1 ≤ e.2.2 ∧ e.2.2 ≤ 1 := fun e he => H1.out e (hperm.subset he)
  have hat : ∀ i, i < n → F.getD i (0, 0, 0) ∈ F := fun i hi => by rw [getD_at F _ (by omega)]; exact List.getElem_mem _
  have HL := Lib.hid (sumL_bd (E := fun i => F.getD i (0, 0, 0)) (n := n) (fun i hi => ⟨(hbl1 _ (hat i hi)).1, (hbl1 _ (hat i hi)).2.1⟩))
  have HRR := Lib.hid (sumR_bd (E := fun i => F.getD i (0, 0, 0)) (n := n) (fun i hi => ⟨(hbl1 _ (hat i hi)).2.2.1, (hbl1 _ (hat i hi)).2.2.2⟩))
  have HB1 := Lib.hid (fun i (hi : i < n) => hbl1 _ (hat i hi))
  rw [← hnl]
  have hrc : w.heap.size < W1.heap.size := by simp at hz1; omega
  clear hperm hsort hin hlen hnl hb1 hbl1 hat hn HS ho hgr hnb
  obtain ⟨ef, hef⟩ : ∃ ef : Nat → Ev, ef = fun i => F.getD i (0, 0, 0) := ⟨_, rfl⟩
  rw [← hef] at HL HRR
  have HF : Hid (∀ i, F.getD i (0, 0, 0) = ef i) := Lib.hid (fun i => by rw [hef])
  have HEF := Lib.hid hef
  clear hef
  go_wp2
  go_loopw [5, 6, 7, 8, 9, 14] (fun kv lv rv _ _ iv wr => ∃ (k : Nat) (u : Value) (l r : Int), k ≤ n ∧ iv = .int .i64 k ∧ u = kv ∧ lv = .int .i64 l ∧ rv = .int .i64 r ∧ Hid (l = sumL ef k) ∧ Hid (r = sumR ef k) ∧ Hid (wr.ownsRow W1.heap.size 34 2 u (keptL kp ef n k).length (spC (keptL kp ef n k))) ∧ Below W1.heap.size W1 wr) (fun _ _ _ _ _ iv _ => n - (RowKit.intOf iv).toNat)
  case atStart => exact ⟨0, _, 0, 0, by omega, rfl, rfl, rfl, rfl, Lib.hid rfl, Lib.hid rfl, Lib.hid (World.ownsRow_nil _ _ _ _), Below.refl _ _⟩
  case round =>
    obtain ⟨k, u, l, r, hk, rfl, rfl, rfl, rfl, HSL, HSR, HO, hb⟩ := hrel
    by_cases hlt : k < n
    · rcases HI.out with h | ⟨b, o, rfl, hc⟩
      · have := HN.out; rw [h] at this; simp at this; omega
      obtain ⟨c1, c2, c3⟩ := hc k (by rw [← HN.out]; exact hlt)
      rw [HF.out] at c1 c2 c3
      have hbl : b < W1.heap.size := World.block_lt_of_cell? W1 _ c1
      have e1 := (hb.cell (p := ⟨b, o + k * 3, none⟩) hbl).trans c1
      have e2 := (hb.cell (p := ⟨b, o + k * 3 + 1, none⟩) hbl).trans c2
      have e3 := (hb.cell (p := ⟨b, o + k * 3 + 2, none⟩) hbl).trans c3
      have i1 : (k : Int) < (n : Int) := by omega
      have hl1 := HL.out k hk
      have hr1 := HRR.out k hk
      rw [← HSL.out] at hl1
      rw [← HSR.out] at hr1
      have hx := HB1.out k hlt
      rw [HF.out] at hx
      have HSL2 : Hid (l + (ef k).2.1 = sumL ef (k + 1)) := Lib.hid (by rw [sumL, HSL.out])
      have HSR2 : Hid (r + (ef k).2.2 = sumR ef (k + 1)) := Lib.hid (by rw [sumR, HSR.out])
      have hb1 := hb.alloc hb.size (.cells #[.int .i64 (ef k).1, .int .i64 (ef k).2.1, .int .i64 (ef k).2.2] 85)
      have HO1 := Lib.hid (HO.out.alloc (.cells #[.int .i64 (ef k).1, .int .i64 (ef k).2.1, .int .i64 (ef k).2.2] 85))
      have HKA : Hid (kp (decide (0 < l + (ef k).2.1)) (decide (0 < r + (ef k).2.2)) = keepAt kp ef k) := Lib.hid (by rw [HSL2.out, HSR2.out]; rfl)
      have hkl := keptL_len kp ef n k
      clear c1 c2 c3 HO hb HSL HSR
      by_cases hnx : k + 1 < n
      · have i2 : (k : Int) + 1 < (n : Int) := by omega
        obtain ⟨n1, -, -⟩ := hc (k + 1) (by rw [← HN.out]; exact hnx)
        rw [HF.out] at n1
        have e4 := (hb1.cell (p := ⟨b, o + (k + 1) * 3, none⟩) hbl).trans n1
        have e5 : (wr.alloc (.cells #[.int .i64 (ef k).1, .int .i64 (ef k).2.1, .int .i64 (ef k).2.2] 85)).cell? ⟨wr.heap.size, 0, none⟩ = some (.int .i64 (ef k).1) := by rw [World.cell?_alloc_new]; rfl
        clear n1 hc
        cases hka : keepAt kp ef k
        · have HKN : Hid (keptL kp ef n (k + 1) = keptL kp ef n k) := Lib.hid (by rw [keptL, if_neg (by simp [hka])])
          rw [hka] at HKA
          generalize (ef k).1 = x at *
          generalize (ef k).2.1 = y at *
          generalize (ef k).2.2 = z at *
          clear e4 e5
          go_wp2_with fail
          refine (HK.out _ _ _).mono ?_
          rintro e w3 ⟨rfl, rfl⟩
          rw [HKA.out]
          go_wp2
          exact ⟨⟨k + 1, u, _, _, by omega, by go_num, rfl, rfl, rfl, HSL2, HSR2, Lib.hid (by rw [HKN.out]; exact HO1.out), hb1⟩, by simp [RowKit.intOf]; omega⟩
        · have HKN : Hid (keptL kp ef n (k + 1) = joinL (keptL kp ef n k) ((ef k).1, (ef (k + 1)).1)) := Lib.hid (by rw [keptL, if_pos ⟨hnx, hka⟩])
          rw [hka] at HKA
          generalize (ef k).1 = x at *
          generalize (ef k).2.1 = y at *
          generalize (ef k).2.2 = z at *
          generalize (ef (k + 1)).1 = x' at *
          go_wp2_with fail
          refine (HK.out _ _ _).mono ?_
          rintro e w3 ⟨rfl, rfl⟩
          rw [HKA.out]
          go_wp2
          obtain ⟨W, hW⟩ : ∃ W, W = (wr.alloc (.cells #[.int .i64 x, .int .i64 y, .int .i64 z] 85)).drew := ⟨_, rfl⟩
          have HO2 : Hid (W.ownsRow W1.heap.size 34 2 u (keptL kp ef n k).length (spC (keptL kp ef n k))) := Lib.hid (by rw [hW]; exact HO1.out)
          have hb2 : Below W1.heap.size W1 W := by rw [hW]; exact hb1.drew
          have f4 : W.cell? ⟨b, o + (k + 1) * 3, none⟩ = some (.int .i64 x') := by rw [hW]; exact e4
          have f5 : W.cell? ⟨wr.heap.size, 0, none⟩ = some (.int .i64 x) := by rw [hW]; exact e5
          refine wp_region_still_tail 10 (by kernel_rfl) (by kernel_rfl) ?_
          change wpStill _ _ (wr.alloc (.cells #[.int .i64 x, .int .i64 y, .int .i64 z] 85)).drew (fun a' => wpList _ _ _ _ a' (wr.alloc (.cells #[.int .i64 x, .int .i64 y, .int .i64 z] 85)).drew) _ _
          rw [← hW]
          clear hW e4 e5 HO1 hb1 e1 e2 e3
          simp only [List.take_succ_cons, List.take_zero, List.drop_succ_cons, List.drop_zero]
          have s1 : IntKind.i64.wrap ((k : Int) + 1) = (k : Int) + 1 := IntWalk.i64_in _ (by omega)
          have s2 : (0 : Int) ≤ (k : Int) + 1 := by omega
          have s3 : ((k : Int) + 1).toNat = k + 1 := by omega
          iterate 10 still_step
          refine wpStill_nil ?_
          clear s1 s2 s3
          go_wp2_with fail
          refine (join_any W1.heap.size u (keptL kp ef n k) x x' _ (by omega) HO2.out hb2.size).mono ?_
          rintro e w4 ⟨v', rfl, ho, hb3⟩
          have HO3 := Lib.hid ho
          have hb4 := hb2.trans hb3
          clear ho hb3 hb2 HO2 f4 f5
          go_wp2
          exact ⟨⟨k + 1, v', _, _, by omega, by go_num, rfl, rfl, rfl, HSL2, HSR2, Lib.hid (by rw [HKN.out]; exact HO3.out), hb4⟩, by simp [RowKit.intOf]; omega⟩
      · have i2 : ¬ (k : Int) + 1 < (n : Int) := by omega
        have HKN : Hid (keptL kp ef n (k + 1) = keptL kp ef n k) := Lib.hid (by rw [keptL, if_neg (by omega)])
        clear hc
        generalize (ef k).1 = x at *
        generalize (ef k).2.1 = y at *
        generalize (ef k).2.2 = z at *
        go_wp2
        exact ⟨⟨k + 1, u, _, _, by omega, by go_num, rfl, rfl, rfl, HSL2, HSR2, Lib.hid (by rw [HKN.out]; exact HO1.out), hb1⟩, by simp [RowKit.intOf]; omega⟩
    · obtain rfl : n = k := by omega
      obtain ⟨q, cq, hq, hqc⟩ := own_slice HO.out
      subst hq
      have hr1 : wr.cell? ⟨w.heap.size, 0, none⟩ = some (.slice none 0 0) := (hb.cell (p := ⟨w.heap.size, 0, none⟩) hrc).trans hrc1
      have hr2 : wr.frozen? ⟨w.heap.size, 0, none⟩ = false := (hb.frozen (p := ⟨w.heap.size, 0, none⟩) hrc).trans hrc2
      have hsp := SpansIn.of_own HO.out
      have hbx := (hb2.trans (hb.mono (by have := hb2.size; omega))).setCell (p := ⟨w.heap.size, 0, none⟩) hB (.slice q (keptL kp ef n n).length cq)
      have hqb : ∀ a, q = some a → W1.heap.size ≤ a.block := fun a ha => by subst ha; exact (HO.out.lt a.block rfl).1
      have hsp2 := hsp.far ⟨w.heap.size, 0, none⟩ (.slice q (keptL kp ef n n).length cq) (fun a ha => by have := hqb a ha; show w.heap.size ≠ a.block; omega)
      have HQB : Hid (∀ a, q = some a → B ≤ a.block ∧ a.spot = none) := Lib.hid (fun a ha => ⟨by have := hqb a ha; have := hb2.size; omega, by
        subst ha
        rcases HO.out.2 with ⟨h, _⟩ | ⟨g', cap', cur, h, _⟩
        · cases h
        · injection h with h; injection h with h; rw [h]⟩)
      have hwd := walk_days (kp := kp) (E := ef) (n := n) (A := As) (B := Bs) HKP.out (fun i hi => by rw [← HF.out, ← HF.out]; exact HR.out i (by rw [← HN.out]; exact hi)) (by rw [HEF.out, HN.out, evs_getD, ← HE.out]; exact HP.out)
      have hall := keptL_all (p := in64) (kp := kp) (E := ef) (n := n) (fun k hk => by
        rw [← HF.out, getD_at F _ (by rw [← HN.out]; exact hk)]
        exact H64.out _ (HP.out.subset (List.getElem_mem _))) n (Nat.le_refl _)
      have hkl := keptL_len kp ef n n
      have HX := Lib.hid hsp2
      have HY := Lib.hid hwd
      have HZ := Lib.hid hall
      have HLN := Lib.hid hkl
      have HQC := Lib.hid hqc
      clear hlt hk hsp hsp2 hwd hall hkl hqc HO hqb
      generalize keptL kp ef n n = K at *
      have hr3 : (wr.setCell ⟨w.heap.size, 0, none⟩ (.slice q K.length cq)).cell? ⟨w.heap.size, 0, none⟩ = some (.slice q K.length cq) := World.cell?_setCell_same _ _ _ hr1
      go_wp2
      refine bodyPost_ret (v := .agg #[.slice q K.length cq]) (by simp [results, Tryd.results21, go_sem, hr3]) rfl ⟨K, q, cq, rfl, HY.out.1, HY.out.2, HZ.out, by rw [← HEV.out]; exact HLN.out, HQC.out, HQB.out, HX.out, hbx⟩

end Go.Proofs.YtogdiiengbmiiaaDoor.Sp
