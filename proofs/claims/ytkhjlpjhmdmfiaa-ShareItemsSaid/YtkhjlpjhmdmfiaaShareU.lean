/-
  What is proved: the contract of the document's own Items: as share.Items', or the same error. Conditions: items and weights lie in memory as the contract says.
-/
import Derived.Test.YtkhjlpjhmdmfiaaShareT
import Derived.Deep.RegionHeld3
import Derived.Deep.AppendLies
import Derived.Laws.Pointers
namespace Go.Proofs.Ytkhjlpjhmdmfiaa
open Go Go.RowKit Go.Proofs

/-- There is a right arrangement. -/
theorem good_exists (r : Nat → Nat) : ∀ n, ∃ f, Good r f 0 n
  | 0 => ⟨fun i => i, fun i j _ _ h => by omega, fun i _ h => by omega, fun v _ h => by omega⟩
  | n + 1 => by
    obtain ⟨f0, h0⟩ := good_exists r n
    obtain ⟨f, hf, hfn⟩ : ∃ f : Nat → Nat, (∀ i, i < n → f i = f0 i) ∧ f n = n := ⟨fun i => if i < n then f0 i else i, fun i hi => if_pos hi, if_neg (by omega)⟩
    have h1 : Good r f 0 n := h0.far (fun i _ hi => hf i hi)
    have h2 : Good r f n (n + 1) := ⟨fun i j a b c => by omega, fun i a b => by rw [show i = n by omega, hfn]; omega, fun v a b => ⟨n, by omega, by omega, by rw [hfn]; omega⟩⟩
    have hcut : ∃ i, i ≤ n ∧ (∀ k, k < i → ¬ r (f k) < r (f n)) ∧ ∀ k, i ≤ k → k < n → r (f k) < r (f n) := by
      have key : ∀ d, d ≤ n → ∃ i, i ≤ d ∧ (∀ k, k < i → ¬ r (f k) < r (f n)) ∧ ∀ k, i ≤ k → k < d → r (f k) < r (f n) := by
        intro d
        induction d with
        | zero => intro _; exact ⟨0, by omega, fun k h => by omega, fun k _ h => by omega⟩
        | succ d ih =>
          intro hd
          obtain ⟨i, i1, i2, i3⟩ := ih (by omega)
          by_cases e : r (f d) < r (f n)
          · exact ⟨i, by omega, i2, fun k k1 k2 => by
              by_cases e2 : k = d
              · rw [e2]; exact e
              · exact i3 k k1 (by omega)⟩
          · by_cases e3 : i = d
            · exact ⟨d + 1, by omega, fun k hk => by
                by_cases e2 : k = d
                · rw [e2]; exact e
                · exact i2 k (by omega), fun k k1 k2 => by omega⟩
            · exfalso
              have hb := h1.1 i d (by omega) (by omega) (by omega)
              have := i3 i (Nat.le_refl _) (by omega)
              unfold bef at hb
              omega
      exact key n (Nat.le_refl _)
    obtain ⟨i, i1, i2, i3⟩ := hcut
    obtain ⟨p, s⟩ := one_down (h1.two h2) rfl (Nat.zero_le _) i1 (fun k _ hk => i2 k hk) (fun k k1 k2 => i3 k k1 k2)
    exact ⟨_, h1.join h2 (by omega) (by omega) p s⟩

/-- A list's cells, item by item. -/
def itemL (code : Nat → ByteArray) (P : Nat → Nat → Int) (k : Nat) : Nat → List Value
  | 0 => []
  | d + 1 => itemL code P k d ++ [.string (code d), .int .i64 (P d k)]
theorem itemL_len (code : Nat → ByteArray) (P : Nat → Nat → Int) (k : Nat) : ∀ d, (itemL code P k d).length = d * 2
  | 0 => rfl
  | d + 1 => by rw [itemL, List.length_append, itemL_len code P k d]; simp; omega
theorem itemL_at (code : Nat → ByteArray) (P : Nat → Nat → Int) (k j : Nat) : ∀ d, j < d → (itemL code P k d)[j * 2]? = some (.string (code j)) ∧ (itemL code P k d)[j * 2 + 1]? = some (.int .i64 (P j k))
  | 0, h => by omega
  | d + 1, h => by
    rw [itemL]
    by_cases e : j = d
    · subst e
      rw [List.getElem?_append_right (by rw [itemL_len]; omega), List.getElem?_append_right (by rw [itemL_len]; omega), itemL_len]
      rw [show j * 2 - j * 2 = 0 by omega, show j * 2 + 1 - j * 2 = 1 by omega]
      exact ⟨rfl, rfl⟩
    · have := itemL_at code P k j d (by omega)
      rw [List.getElem?_append_left (by rw [itemL_len]; omega), List.getElem?_append_left (by rw [itemL_len]; omega)]
      exact this
theorem own_below {w w' : World} {base B : Nat} {e : TypeId} {size : Nat} {v : Value} {n : Nat} {xs : List Value} (h : w.ownsRow base e size v n xs) (hb : Below B w w') (hB : w.heap.size ≤ B) : w'.ownsRow base e size v n xs := by
  refine ⟨h.1, ?_⟩
  rcases h.2 with hn | ⟨g, cap, cur, hv, hg, hh, rest⟩
  · exact .inl hn
  · refine .inr ⟨g, cap, cur, hv, hg, ?_, rest⟩
    have hlt : g < w.heap.size := by
      rcases Nat.lt_or_ge g w.heap.size with hl | hl
      · exact hl
      · rw [Array.getElem?_eq_none hl] at hh; cases hh
    rw [hb.block g (by omega)]; exact hh

theorem own_set {w : World} {base : Nat} {e : TypeId} {size : Nat} {v : Value} {n : Nat} {xs : List Value} (h : w.ownsRow base e size v n xs) {g p : Nat} (hg : g < base) (u : Value) : (w.setCell ⟨g, p, none⟩ u).ownsRow base e size v n xs := by
  refine ⟨h.1, ?_⟩
  rcases h.2 with hn | ⟨b, cap, cur, hv, hb, hh, rest⟩
  · exact .inl hn
  · refine .inr ⟨b, cap, cur, hv, hb, ?_, rest⟩
    rw [Below.heap_setCell _ _ _ _ (by show b ≠ g; omega)]; exact hh
/-- The lists that grow, side by side. -/
structure Lists (w : World) (G n : Nat) (V : Nat → Value) (d : Nat → Nat) (code : Nat → ByteArray) (P : Nat → Nat → Int) : Prop where
  row : RowV w G n V
  own : ∀ k, k < n → w.ownsRow (G + 1) 47 2 (V k) (d k) (itemL code P k (d k))
  apart : ∀ k i, k < n → i < n → k ≠ i → (V k).ownBlock = none ∨ (V k).ownBlock ≠ (V i).ownBlock
  inside : G < w.heap.size
theorem Lists.below {w w' : World} {G n B : Nat} {V : Nat → Value} {d : Nat → Nat} {code : Nat → ByteArray} {P : Nat → Nat → Int} (h : Lists w G n V d code P) (hb : Below B w w') (hB : w.heap.size ≤ B) : Lists w' G n V d code P :=
  ⟨h.row.below hb (by have := h.inside; omega), fun k hk => own_below (h.own k hk) hb hB, h.apart, by have := h.inside; have := hb.size; omega⟩
theorem row_far {w w' : World} {row : Option Nat} {g n : Nat} {v : Nat → Value} (h : RowV w g n v) (hg : w.grownBy w' row) (hlt : g < w.heap.size) (hne : some g ≠ row) : RowV w' g n v := fun j hj => by
  obtain ⟨h1, h2⟩ := h j hj
  exact ⟨(hg.cell_far (a := ⟨g, j, none⟩) hlt hne).trans h1, (hg.frozen_far (a := ⟨g, j, none⟩) hlt hne).trans h2⟩
theorem row_alloc {w : World} {g n : Nat} {v : Nat → Value} (h : RowV w g n v) (hlt : g < w.heap.size) (o : Obj) : RowV (w.alloc o) g n v := h.below ((Below.refl w.heap.size w).alloc (Nat.le_refl _) o) hlt
/-- One item more in one list. -/
theorem Lists.step {w w1 : World} {G n k gg cap : Nat} {V : Nat → Value} {d : Nat → Nat} {code : Nat → ByteArray} {P : Nat → Nat → Int} {o : Obj} (h : Lists w G n V d code P) (hk : k < n)
    (hg : (w.alloc o).grownBy w1 (V k).ownBlock) (ho : w1.ownsRow (G + 1) 47 2 (.slice (some ⟨gg, 0, none⟩) (d k + 1) cap) (d k + 1) (itemL code P k (d k) ++ [.string (code (d k)), .int .i64 (P (d k) k)])) (hat : (V k).ownBlock = some gg ∨ gg = w.heap.size + 1) :
    Lists (w1.setCell ⟨G, k, none⟩ (.slice (some ⟨gg, 0, none⟩) (d k + 1) cap)) G n (fun i => if i = k then .slice (some ⟨gg, 0, none⟩) (d k + 1) cap else V i) (fun i => if i = k then d k + 1 else d i) code P := by
  have hin := h.inside
  have hsz : G < (w.alloc o).heap.size := by simp; omega
  have hlt : ∀ i, i < n → ∀ b, (V i).ownBlock = some b → G + 1 ≤ b ∧ b < w.heap.size := fun i hi b hb => (h.own i hi).lt b hb
  have hne : ∀ i, i < n → some G ≠ (V i).ownBlock := fun i hi e => by have := (hlt i hi G e.symm).1; omega
  refine ⟨?_, fun i hi => ?_, fun i j hi hj hij => ?_, ?_⟩
  · exact ((row_far (row_alloc h.row hin o) hg hsz (hne k hk)).store k _).congr (fun i _ => rfl)
  · by_cases e : i = k
    · subst e
      simp only [if_true]
      exact own_set ho (by omega) _
    · simp only [if_neg e]
      exact own_set (((h.own i hi).alloc o).kept hg (h.apart i k hi hk e)) (by omega) _
  · by_cases e : i = k
    · subst e
      simp only [if_true, if_neg (show ¬ j = i by omega)]
      right
      intro e2
      rcases hat with hat | hat
      · rcases h.apart j i hj hi (by omega) with e3 | e3
        · rw [e3] at e2; cases e2
        · exact e3 (by rw [hat, ← e2]; rfl)
      · have := (hlt j hj gg (by rw [← e2]; rfl)).2
        omega
    · simp only [if_neg e]
      by_cases e' : j = k
      · subst e'
        simp only [if_true]
        rcases hat with hat | hat
        · rcases h.apart i j hi hj e with e3 | e3
          · exact .inl e3
          · right; intro e2; exact e3 (by rw [hat, e2]; rfl)
        · cases hv : (V i).ownBlock with
          | none => exact .inl rfl
          | some b =>
            right
            intro e2
            have : b = gg := Option.some.inj e2
            have := (hlt i hi b hv).2
            omega
      · simp only [if_neg e']
        exact h.apart i j hi hj hij
  · have := hg.size
    simp at this ⊢
    omega
/-- All that a round of the document's Items leaves. -/
theorem item_step {w0 wr w1 : World} {G n i k gg cap b q g : Nat} {V : Nat → Value} {code : Nat → ByteArray} {P : Nat → Nat → Int} {u : ByteArray} {v : Int} {ov : Value} (hL : Lists wr G n V (fun x => if x < k then i + 1 else i) code P) (hkn : k < n) (hov : ov = V k) (hu : code i = u) (hv : v = P i k)
    (hg : (wr.alloc (.cells #[.string u, .int .i64 v] 47)).grownBy w1 ov.ownBlock) (ho : w1.ownsRow (G + 1) 47 2 (.slice (some ⟨gg, 0, none⟩) (i + 1) cap) (i + 1) (itemL code P k i ++ [.string u, .int .i64 v])) (hat : ov.ownBlock = some gg ∨ gg = wr.heap.size + 1)
    (e1 : wr.cell? ⟨b, q, none⟩ = some (.string u)) (hbG : b < G) (HP : RowV wr g n (fun k => .int .i64 (P i k))) (hgs : g < wr.heap.size) (hgG : G < g) (hfree : ∀ k, k < n → (V k).ownBlock ≠ some g) (hb : Below w0.heap.size w0 wr) (hwG : w0.heap.size ≤ G) :
    (w1.setCell ⟨G, k, none⟩ (.slice (some ⟨gg, 0, none⟩) (i + 1) cap)).cell? ⟨b, q, none⟩ = some (.string u) ∧
    Lists (w1.setCell ⟨G, k, none⟩ (.slice (some ⟨gg, 0, none⟩) (i + 1) cap)) G n (fun x => if x = k then .slice (some ⟨gg, 0, none⟩) (i + 1) cap else V x) (fun x => if x < k + 1 then i + 1 else i) code P ∧
    RowV (w1.setCell ⟨G, k, none⟩ (.slice (some ⟨gg, 0, none⟩) (i + 1) cap)) g n (fun k => .int .i64 (P i k)) ∧
    (∀ x, x < n → ((fun x => if x = k then .slice (some ⟨gg, 0, none⟩) (i + 1) cap else V x) x : Value).ownBlock ≠ some g) ∧
    g < (w1.setCell ⟨G, k, none⟩ (.slice (some ⟨gg, 0, none⟩) (i + 1) cap)).heap.size ∧ Below w0.heap.size w0 (w1.setCell ⟨G, k, none⟩ (.slice (some ⟨gg, 0, none⟩) (i + 1) cap)) := by
  subst hov hu hv
  have hin := hL.inside
  have hlo : ∀ y, (V k).ownBlock = some y → G + 1 ≤ y ∧ y < wr.heap.size := (hL.own k hkn).lt
  have hne : ∀ y, y ≤ G → some y ≠ (V k).ownBlock := fun y hy e => by have := (hlo y e.symm).1; omega
  have hsz : wr.heap.size < w1.heap.size := by have := hg.size; simp at this; omega
  have hdk : (if k < k then i + 1 else i) = i := by simp
  have hstep := hL.step (gg := gg) (cap := cap) hkn hg (by rw [hdk]; exact ho) hat
  rw [hdk] at hstep
  have hdd : (fun x => if x = k then i + 1 else if x < k then i + 1 else i) = (fun x => if x < k + 1 then i + 1 else i) := by
    funext x
    by_cases e : x = k
    · rw [if_pos e, if_pos (by omega)]
    · rw [if_neg e]
      by_cases e2 : x < k
      · rw [if_pos e2, if_pos (by omega)]
      · rw [if_neg e2, if_neg (by omega)]
  rw [hdd] at hstep
  refine ⟨?_, hstep, ?_, fun x hx => ?_, by simp; omega, ?_⟩
  · rw [World.cell?_setCell_other _ _ _ _ (by intro h; injection h; omega), hg.cell_far ⟨b, q, none⟩ (by simp; omega) (hne b (by omega))]
    exact (((Below.refl wr.heap.size wr).alloc (Nat.le_refl _) _).cell (p := ⟨b, q, none⟩) (by show b < wr.heap.size; omega)).trans e1
  · exact (row_far (row_alloc HP hgs _) hg (by simp; omega) (fun e => hfree k hkn e.symm)).far _ _ _ (by omega)
  · by_cases e : x = k
    · subst e
      simp only [if_true]
      intro e2
      have e3 : gg = g := Option.some.inj e2
      rcases hat with hat | hat
      · exact hfree x hx (by rw [hat, e3])
      · omega
    · simp only [if_neg e]; exact hfree x hx
  · have hbA := hb.alloc hb.size (.cells #[.string (code i), .int .i64 (P i k)] 47)
    exact (hbA.grown hg hbA.size (fun y hy => by have := (hlo y hy).1; omega)).setCell (p := ⟨G, k, none⟩) hwG _
theorem Lists.grid {w : World} {G n m : Nat} {V : Nat → Value} {code : Nat → ByteArray} {P : Nat → Nat → Int} (h : Lists w G n V (fun _ => m) code P) : Grid w G n m code P := fun k hk => by
  have h1 := (h.row k hk).1
  have h2 := h.own k hk
  rcases h2.2 with ⟨hv, hm⟩ | ⟨g, cap, cur, hv, hb, hh, hrest⟩
  · refine ⟨none, 0, ?_, fun j hj => ?_⟩
    · rw [h1, hv, hm]
    · omega
  · refine ⟨some ⟨g, 0, none⟩, cap, by rw [h1, hv], fun j hj => ⟨g, rfl, ?_, ?_⟩⟩
    · have h3 := h2.cells (g := g) (by rw [hv]; rfl) (j * 2) _ (itemL_at code P k j m hj).1
      rw [← h3]; congr 1; simp [Addr.add]
    · have h3 := h2.cells (g := g) (by rw [hv]; rfl) (j * 2 + 1) _ (itemL_at code P k j m hj).2
      rw [← h3]; congr 1; simp [Addr.add]

end Go.Proofs.Ytkhjlpjhmdmfiaa
