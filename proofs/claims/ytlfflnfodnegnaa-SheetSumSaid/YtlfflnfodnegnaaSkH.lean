/-
  What is proved: slices.SortedFunc of the weeks of a map holds each of them once, rising. Conditions: the map lies in memory as its function says, and has at most 10^6 weeks.
-/
import Derived.Test.YtlfflnfodnegnaaSkG
import Derived.Test.YtlfflnfodnegnaaShelf
import Derived.Deep.AppendLies
namespace Go.Proofs.Ytlfflnfodnegnaa
open Go Go.RowKit Go.Proofs Go.Shelf Go.Lib Go.Sort
set_option linter.unusedVariables false

def encM (m : Int) : List Value := [.int .i64 m]
theorem ltM (x y : Int) : ltOf (fun x y : Int => Lib.compareInt x y) x y = decide (x < y) := by
  unfold ltOf Lib.compareInt
  by_cases h1 : x < y
  · simp [h1]
  · by_cases h2 : y < x <;> simp [h1, h2]
theorem swoM : SWO (ltOf fun x y : Int => Lib.compareInt x y) where
  irrefl x := by rw [ltM]; simp
  trans x y z h1 h2 := by rw [ltM] at *; simp at *; omega
  ntrans x y z h1 h2 := by rw [ltM] at *; simp at *; omega
set_option maxHeartbeats 1000000 in
theorem byMon_any (x y : Int) (W : World) : Calls Try.prog 22 #[.agg #[.int .i64 x], .agg #[.int .i64 y]] W fun e w' => e = .returned (.int .i64 (Lib.compareInt x y)) ∧ ∃ q os', w' = Sort.grow (W.drewN q) os' := by
  have hcon := fun W' => AnyG.cmp_Compare_int Try.laysCompare x y W'
  change ∀ W', Calls Try.prog 23 _ _ _ at hcon
  generalize Lib.compareInt x y = r at hcon ⊢
  go_enter Try.func22, Try.ntmps22
  go_wp2_with (go_at_call 23; refine (hcon _).mono ?_; rintro e w' ⟨rfl, rfl⟩)
  go_ret
  exact ⟨rfl, 0, _, by rw [alloc_eq_grow, alloc_eq_grow, grow_grow]; rfl⟩
theorem byMon_lays (blk off size : Nat) (w : World) : CmpLays Try.prog 22 #[] encM 1 (fun x y => Lib.compareInt x y) blk off size w :=
  fun _ _ _ _ x y => byMon_any x y _
theorem add_at (g j : Nat) : (⟨g, 0, none⟩ : Addr).add j = ⟨g, j, none⟩ := by
  unfold Addr.add; split <;> simp_all
theorem getD_at {α : Type} (L : List α) (z : α) {j : Nat} (hj : j < L.length) : L.getD j z = L[j]'hj := by simp [List.getD, hj]
/-- Weeks that lie in memory. -/
def MonsIn (w : World) (p : Option Addr) (L : List Int) : Prop := L.length = 0 ∨ ∃ b o, p = some ⟨b, o, none⟩ ∧ ∀ j, j < L.length → w.cell? ⟨b, o + j, none⟩ = some (.int .i64 (L.getD j 0))
theorem MonsIn.below {w w' : World} {p : Option Addr} {L : List Int} (h : MonsIn w p L) (hb : Below w.heap.size w w') : MonsIn w' p L := by
  rcases h with h | ⟨b, o, rfl, hc⟩
  · exact .inl h
  · exact .inr ⟨b, o, rfl, fun j hj => stay hb (hc j hj)⟩
theorem arr_getD {α : Type} [Inhabited α] (L : List α) (i : Nat) (h : i < L.length) (z : α) : L.toArray[i]! = L.getD i z := by
  rw [getD_at L z h, getElem!_pos _ i (by simpa using h)]; simp
theorem sortWorld_grown {g : Nat} (w : World) (n : Nat) (d : Array Int) (os : Array Obj) : w.grownBy (sortWorldK encM 1 w g 0 n d os) (some g) := by
  have hsz : (putRowK encM 1 (Sort.ahead w n) g 0 d).heap.size = w.heap.size := by simp [putRowK, putRow, mapBlock, Sort.ahead]
  refine ⟨rfl, rfl, rfl, ?_, fun k hk hne => ?_⟩
  · show w.heap.size ≤ (Sort.grow (putRowK encM 1 (Sort.ahead w n) g 0 d) os).heap.size
    rw [size_grow, hsz]; omega
  · show (Sort.grow (putRowK encM 1 (Sort.ahead w n) g 0 d) os).heap[k]? = _
    rw [heap_grow_old _ _ (by rw [hsz]; omega)]
    simp only [putRowK, putRow, mapBlock, Sort.ahead, Array.getElem?_modify]
    rw [if_neg (fun e => hne (by rw [e]))]

theorem own_cells {w : World} {base : Nat} {E : TypeId} {s n : Nat} {v : Value} {xs : List Value} (h : w.ownsRow base E s v n xs) (hn : 0 < n) :
    ∃ g c, v = .slice (some ⟨g, 0, none⟩) n c ∧ base ≤ g ∧ g < w.heap.size ∧ n ≤ c ∧ ∀ j u, xs[j]? = some u → w.cell? ⟨g, j, none⟩ = some u := by
  obtain ⟨g, c, rfl, hg, hlt⟩ := h.form hn
  refine ⟨g, c, rfl, hg, hlt, ?_, fun j u hu => by have := h.cells (g := g) rfl j u hu; rwa [add_at] at this⟩
  rcases h.2 with ⟨h1, _⟩ | ⟨g', c', cur, h1, _, _, h2, _⟩
  · cases h1
  · injection h1 with _ _ h3; omega
theorem own_slice {w : World} {base : Nat} {E : TypeId} {s n : Nat} {v : Value} {xs : List Value} (h : w.ownsRow base E s v n xs) : ∃ p c, v = .slice p n c := by
  rcases h.2 with ⟨h1, h2⟩ | ⟨g', c', cur, h1, _⟩
  · subst h2; exact ⟨none, 0, h1⟩
  · exact ⟨_, _, h1⟩
theorem holds_own {w : World} {B : Nat} {E : List Int} {g c : Nat} (ho : w.ownsRow B 59 1 (.slice (some ⟨g, 0, none⟩) E.length c) E.length (E.map enW)) : HoldsK encM 1 w g 0 E.toArray := by
  intro j hj
  have hj' : j < E.length := by simpa using hj
  rw [Nat.zero_add]
  refine ⟨?_, ho.frozenAt j⟩
  have hc := ho.cells (g := g) rfl j
  rw [add_at] at hc
  rw [hc (enW (E.getD j 0)) (by rw [getD_at E 0 hj']; simp [hj'])]
  rw [get_flatK _ _ _ _ (by simpa using hj'), arr_getD E (j / 1) (by omega) 0]
  rw [Nat.div_one, Nat.mod_one]
  rfl
/-- What sorting weeks leaves. -/
def SortedMons (B : Nat) (v : Value) (E : List Int) (w : World) (e : Ending) (w' : World) : Prop :=
  e = .returned (.tuple #[]) ∧ ∃ (E' : List Int) (p : Option Addr) (c : Nat), v = .slice p E'.length c ∧ E'.Perm E ∧ (∀ i, i + 1 < E'.length → E'.getD i 0 ≤ E'.getD (i + 1) 0) ∧ MonsIn w' p E' ∧ RowKit.Below B w w'
set_option maxRecDepth 100000 in
theorem sortMons_any (B : Nat) (v : Value) (E : List Int) (w : World) (ho : w.ownsRow B 59 1 v E.length (E.map enW)) (hn : E.length ≤ 1000000) :
    Calls Try.prog 30 #[v, .func (.func 22) #[] #[]] w (SortedMons B v E w) := by
  by_cases h0 : E.length = 0
  · obtain rfl := List.eq_nil_of_length_eq_zero h0
    obtain ⟨p, c, rfl⟩ := own_slice ho
    have hcon := AnyF.slices_SortFunc_none Try.laysSortFunc p c (.func (.func 22) #[] #[]) w
    change Calls Try.prog 30 _ _ _ at hcon
    refine hcon.mono ?_
    rintro e w' ⟨rfl, rfl⟩
    exact ⟨rfl, [], p, c, rfl, List.Perm.nil, (fun i hi => by simp at hi), .inl rfl, Below.refl _ _⟩
  · obtain ⟨g, c, rfl, hg0, hg1, -, -⟩ := own_cells ho (by omega)
    have hH := holds_own ho
    have eg : ∀ args w, (callFunc 22 args).run Try.prog w = .ok (.enter 22 args) w := enters_of Try.func22 (by kernel_rfl) rfl
    have hcon := AnyQ.slices_SortFunc Try.laysSortFunc 1 Try.isAgg59 Try.sizeOf59 encM (fun _ => rfl) (fun x v hv => by simp [encM] at hv; rw [hv]; rfl) (fun x y => Lib.compareInt x y) swoM 22 #[] g 0 c E.toArray w eg (byMon_lays _ _ _ _) hH hg1 (by simp; omega)
    change Calls Try.prog 30 _ _ _ at hcon
    rw [List.size_toArray] at hcon
    refine hcon.mono ?_
    rintro e w' ⟨rfl, d', n, os, ⟨hp1, -, hp2⟩, hs, rfl⟩
    have hlen : d'.toList.length = E.length := by simpa using hp1
    have hd' : d' = d'.toList.toArray := by simp
    refine ⟨rfl, d'.toList, some ⟨g, 0, none⟩, c, by rw [hlen], ?_, fun i hi => ?_, .inr ⟨g, 0, rfl, fun j hj => ?_⟩, (Below.refl B w).grown (sortWorld_grown w n d' os) (by omega) (fun k hk => by injection hk with hk; omega)⟩
    · have hsz : d'.size = E.length := by simpa using hlen
      rw [← hsz, Array.extract_size] at hp2
      rw [show E.toArray.extract 0 d'.size = E.toArray by rw [hsz, ← List.size_toArray, Array.extract_size]] at hp2
      simpa using hp2
    · have h := hs i (i + 1) (by omega) (by omega) (by omega)
      rw [ltM, hd', arr_getD _ i (by omega) 0, arr_getD _ (i + 1) hi 0] at h
      have := of_decide_eq_false h
      omega
    · have hK := holdsK_sortWorldK_c encM 1 w g 0 E.toArray d' n os hH hg1 (by simpa using hlen)
      have hj' : j < d'.size := by simpa using hj
      have e0 := (hK.cell (i := j) (c := 0) hj' (by omega)).1
      have hat : d'[j]! = d'.toList.getD j 0 := by
        have := arr_getD d'.toList j hj 0
        rwa [← hd'] at this
      rw [hat, Nat.mul_one, Nat.add_zero] at e0
      exact e0

/-- What slices.SortedFunc of the weeks of a map hands back. -/
def Sorted (w : World) (ks : List Int) (e : Ending) (w' : World) : Prop :=
  ∃ (E : List Int) (p : Option Addr) (c : Nat), e = .returned (.slice p E.length c) ∧ E.Nodup ∧ (∀ m, m ∈ E ↔ m ∈ ks) ∧ (∀ i, i + 1 < E.length → E.getD i 0 < E.getD (i + 1) 0) ∧ MonsIn w' p E ∧ Below w.heap.size w w'
set_option maxHeartbeats 1000000 in
theorem SortedFunc_any (b nn : Nat) (S : St) (ks : List Int) (w : World) (h : MapIs w b nn S ks) (hn : nn ≤ 1000000) (hl : ∀ E : List Int, E.Nodup → (∀ m, m ∈ E ↔ m ∈ ks) → E.length ≤ 1000000) :
    Calls Try.prog 20 #[.func (.func 31) #[] #[.pointer (some ⟨w.heap.size, 0, none⟩)], .func (.func 22) #[] #[]] (w.alloc (.cells #[.map (some b)] 53)) (Sorted w ks) := by
  have HC := Lib.hid (Collect_any b nn S ks w h hn)
  go_enter Try.func20, Try.ntmps20
  go_wp2_with fail
  refine (HC.out).mono ?_
  rintro e w2 ⟨v, ss, rfl, hS, hrow, -, hb⟩
  have HS := Lib.hid (sortMons_any w.heap.size v ss w2 hrow (hl ss hS.1 hS.2))
  go_wp2_with fail
  refine (HS.out).mono ?_
  rintro e w3 ⟨rfl, E, p, c, rfl, hP, hle, hM, hb3⟩
  go_wp2
  go_ret
  have hnd := hP.nodup_iff.2 hS.1
  refine ⟨E, p, c, rfl, hnd, fun m => (hP.mem_iff).trans (hS.2 m), fun i hi => ?_, hM, hb.trans hb3⟩
  have h1 := hle i hi
  have h2 : E.getD i 0 ≠ E.getD (i + 1) 0 := by
    rw [getD_at E 0 (by omega), getD_at E 0 hi]
    intro e
    have := (List.nodup_iff_pairwise_ne.1 hnd)
    exact absurd e ((List.pairwise_iff_getElem.1 this) i (i + 1) (by omega) hi (by omega))
  omega

end Go.Proofs.Ytlfflnfodnegnaa
