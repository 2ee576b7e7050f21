/-
  What is proved: slices.SortFunc by span's closure leaves the ends of spans sorted by their days, and the contract of span.walk: the set of the days that a function keeps. Conditions: at most 100000 ends, in memory of the call's own.
-/
import Derived.Test.YtamglmenljgbdaaSqB
import Derived.Test.YtamglmenljgbdaaShelfB
import Derived.StillTailTactics
namespace Go.Proofs.Ytamglmenljgbdaa.Sp
open Go Go.RowKit Go.Proofs Go.Shelf Go.Lib Go.Sort

def encEv (e : Ev) : List Value := [.int .i64 e.1, .int .i64 e.2.1, .int .i64 e.2.2]
theorem ltEv (x y : Ev) : ltOf (fun x y : Ev => Lib.compareInt x.1 y.1) x y = decide (x.1 < y.1) := by
  unfold ltOf Lib.compareInt
  by_cases h1 : x.1 < y.1
  · simp [h1]
  · by_cases h2 : y.1 < x.1 <;> simp [h1, h2]
theorem swoEv : SWO (ltOf fun x y : Ev => Lib.compareInt x.1 y.1) where
  irrefl x := by rw [ltEv]; simp
  trans x y z h1 h2 := by rw [ltEv] at *; simp at *; omega
  ntrans x y z h1 h2 := by rw [ltEv] at *; simp at *; omega
set_option maxHeartbeats 1000000 in
theorem byDay_any (x y : Ev) (W : World) : Calls Try.prog 63 #[.agg #[.int .i64 x.1, .int .i64 x.2.1, .int .i64 x.2.2], .agg #[.int .i64 y.1, .int .i64 y.2.1, .int .i64 y.2.2]] W fun e w' => e = .returned (.int .i64 (Lib.compareInt x.1 y.1)) ∧ ∃ q os', w' = Sort.grow (W.drewN q) os' := by
  have hcon := fun W' => AnyG.cmp_Compare_int Try.laysCompare x.1 y.1 W'
  change ∀ W', Calls Try.prog 64 _ _ _ at hcon
  generalize Lib.compareInt x.1 y.1 = r at hcon ⊢
  go_enter Try.func63, Try.ntmps63
  go_wp2_with (go_at_call 64; refine (hcon _).mono ?_; rintro e w' ⟨rfl, rfl⟩)
  go_ret
  exact ⟨rfl, 0, _, by rw [alloc_eq_grow, alloc_eq_grow, grow_grow]; rfl⟩
theorem byDay_lays (blk off size : Nat) (w : World) : CmpLays Try.prog 63 #[] encEv 3 (fun x y => Lib.compareInt x.1 y.1) blk off size w :=
  fun _ _ _ _ x y => byDay_any x y _

/-- What sorting ends leaves. -/
def SortedEnds (B : Nat) (v : Value) (E : List Ev) (w : World) (e : Ending) (w' : World) : Prop :=
  e = .returned (.tuple #[]) ∧ ∃ (E' : List Ev) (p : Option Addr) (c : Nat), v = .slice p E'.length c ∧ E'.Perm E ∧ (∀ i, i + 1 < E'.length → (E'.getD i (0, 0, 0)).1 ≤ (E'.getD (i + 1) (0, 0, 0)).1) ∧ EvsIn w' p E' ∧ w.grownBy w' v.ownBlock ∧ RowKit.Below B w w'
theorem arr_getD {α : Type} [Inhabited α] (L : List α) (i : Nat) (h : i < L.length) (z : α) : L.toArray[i]! = L.getD i z := by
  rw [getD_at L z h, getElem!_pos _ i (by simpa using h)]; simp
theorem holds_own {w : World} {B : Nat} {E : List Ev} {g c : Nat} (ho : w.ownsRow B 103 3 (.slice (some ⟨g, 0, none⟩) E.length c) E.length (evC E)) : HoldsK encEv 3 w g 0 E.toArray := by
  intro j hj
  have hj' : j < E.length * 3 := by simpa using hj
  rw [Nat.zero_add]
  refine ⟨?_, ho.frozenAt j⟩
  have hc := ho.cells (g := g) rfl j
  rw [add_at] at hc
  rw [hc _ ?_]
  rw [get_flatK _ _ _ _ (by simpa using hj'), arr_getD E (j / 3) (by omega) (0, 0, 0)]
  obtain ⟨a, b, d⟩ := evC_at E (j / 3) (by omega)
  rcases (show j % 3 = 0 ∨ j % 3 = 1 ∨ j % 3 = 2 by omega) with h | h | h
  · rw [show j / 3 * 3 = j by omega] at a; rw [h, a]; rfl
  · rw [show j / 3 * 3 + 1 = j by omega] at b; rw [h, b]; rfl
  · rw [show j / 3 * 3 + 2 = j by omega] at d; rw [h, d]; rfl
theorem sortWorld_grown {g : Nat} (w : World) (n : Nat) (d : Array Ev) (os : Array Obj) : w.grownBy (sortWorldK encEv 3 w g 0 n d os) (some g) := by
  have hsz : (putRowK encEv 3 (Sort.ahead w n) g 0 d).heap.size = w.heap.size := by simp [putRowK, putRow, mapBlock, Sort.ahead]
  refine ⟨rfl, rfl, rfl, ?_, fun k hk hne => ?_⟩
  · show w.heap.size ≤ (Sort.grow (putRowK encEv 3 (Sort.ahead w n) g 0 d) os).heap.size
    rw [size_grow, hsz]; omega
  · show (Sort.grow (putRowK encEv 3 (Sort.ahead w n) g 0 d) os).heap[k]? = _
    rw [heap_grow_old _ _ (by rw [hsz]; omega)]
    simp only [putRowK, putRow, mapBlock, Sort.ahead, Array.getElem?_modify]
    rw [if_neg (fun e => hne (by rw [e]))]
set_option maxRecDepth 100000 in
theorem sortEnds_any (B : Nat) (v : Value) (E : List Ev) (w : World) (ho : w.ownsRow B 103 3 v E.length (evC E)) (hn : E.length ≤ 1000000) :
    Calls Try.prog 62 #[v, .func (.func 63) #[] #[]] w (SortedEnds B v E w) := by
  by_cases h0 : E.length = 0
  · obtain rfl := List.eq_nil_of_length_eq_zero h0
    obtain ⟨p, c, rfl, -⟩ := own_slice ho
    have hcon := AnyF.slices_SortFunc_none Try.laysSortFunc p c (.func (.func 63) #[] #[]) w
    change Calls Try.prog 62 _ _ _ at hcon
    refine hcon.mono ?_
    rintro e w' ⟨rfl, rfl⟩
    exact ⟨rfl, [], p, c, rfl, List.Perm.nil, (fun i hi => by simp at hi), .inl rfl, World.grownBy.refl _ _, Below.refl _ _⟩
  · obtain ⟨g, c, rfl, hg0, hg1, -, -⟩ := own_cells ho (by omega)
    have hH := holds_own ho
    have eg : ∀ args w, (callFunc 63 args).run Try.prog w = .ok (.enter 63 args) w := enters_of Try.func63 (by kernel_rfl) rfl
    have hcon := AnyQ.slices_SortFunc Try.laysSortFunc 3 Try.isAgg103 Try.sizeOf103 encEv (fun _ => rfl) (fun x v hv => by simp [encEv] at hv; rcases hv with rfl | rfl | rfl <;> rfl) (fun x y => Lib.compareInt x.1 y.1) swoEv 63 #[] g 0 c E.toArray w eg (byDay_lays _ _ _ _) hH hg1 (by simp; omega)
    change Calls Try.prog 62 _ _ _ at hcon
    rw [List.size_toArray] at hcon
    refine hcon.mono ?_
    rintro e w' ⟨rfl, d', n, os, ⟨hp1, -, hp2⟩, hs, rfl⟩
    have hlen : d'.toList.length = E.length := by simpa using hp1
    have hd' : d' = d'.toList.toArray := by simp
    refine ⟨rfl, d'.toList, some ⟨g, 0, none⟩, c, by rw [hlen], ?_, fun i hi => ?_, .inr ⟨g, 0, rfl, fun j hj => ?_⟩, sortWorld_grown w n d' os, (Below.refl B w).grown (sortWorld_grown w n d' os) (by omega) (fun k hk => by injection hk with hk; omega)⟩
    · have hsz : d'.size = E.length := by simpa using hlen
      rw [← hsz, Array.extract_size] at hp2
      rw [show E.toArray.extract 0 d'.size = E.toArray by rw [hsz, ← List.size_toArray, Array.extract_size]] at hp2
      simpa using hp2
    · have h := hs i (i + 1) (by omega) (by omega) (by omega)
      rw [ltEv, hd', arr_getD _ i (by omega) (0, 0, 0), arr_getD _ (i + 1) hi (0, 0, 0)] at h
      have := of_decide_eq_false h
      omega
    · have hK := holdsK_sortWorldK_c encEv 3 w g 0 E.toArray d' n os hH hg1 (by simpa using hlen)
      have hj' : j < d'.size := by simpa using hj
      have e0 := (hK.cell (i := j) (c := 0) hj' (by omega)).1
      have e1 := (hK.cell (i := j) (c := 1) hj' (by omega)).1
      have e2 := (hK.cell (i := j) (c := 2) hj' (by omega)).1
      have hat : d'[j]! = d'.toList.getD j (0, 0, 0) := by
        have := arr_getD d'.toList j hj (0, 0, 0)
        rwa [← hd'] at this
      rw [hat] at e0 e1 e2
      exact ⟨e0, e1, e2⟩

end Go.Proofs.Ytamglmenljgbdaa.Sp
