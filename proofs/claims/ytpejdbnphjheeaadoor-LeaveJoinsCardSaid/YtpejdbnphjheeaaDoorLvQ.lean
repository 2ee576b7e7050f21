/-
  What is proved: a region that draws its order, whose own operations only read and whose callees leave all that was as it was, may be walked once, in the order of the text; and that no year's sums are far from 0. Conditions: as each says.
-/
import Derived.Test.YtpejdbnphjheeaaDoorFrameV
import Derived.Test.YtpejdbnphjheeaaDoorLvRb
namespace Go.Proofs.YtpejdbnphjheeaaDoor
open Go Go.RowKit Go.Proofs Go.Proofs.YtpejdbnphjheeaaDoor.Cv
set_option linter.unusedVariables false

/-- A world in which all that W0 had is as it was. -/
structure BelowBy (W0 : World) where
  w : World
  h : Below W0.heap.size W0 w
instance instBelowBy (W0 : World) : Inhabited (BelowBy W0) := ⟨⟨W0, Below.refl _ _⟩⟩
theorem wp_region_quiet_below {P : Program} {id : Nat} {Q : Exit → Act → World → Prop} {a : Act} {w W0 : World} {l : List Oper} (hm : P.follows .mixedOrders = true) (hB : Region.lexB .any l.toArray = true) (hw : Below W0.heap.size W0 w)
    (h : wpQuiet P l.toArray (fun w' => ∃ p : BelowBy W0, w' = p.w) (fun a' => ∀ w', (∃ p : BelowBy W0, w' = p.w) → Q .normal a' w') l a) : (Code.region id l.toArray true).wp P Q a w :=
  wp_region_quiet (C := fun w' => ∃ p : BelowBy W0, w' = p.w) hm hB ⟨⟨_, hw.drew⟩, rfl⟩ (by simpa using h)
theorem below_of {P : Program} {f : FuncId} {args : Array Value} {W0 : World} {p : BelowBy W0} {v : Value} (h : Calls P f args p.w fun e w' => e = .returned v ∧ Below p.w.heap.size p.w w') : Calls P f args p.w fun e w'' => e = .returned v ∧ ∃ q : BelowBy W0, w'' = q.w :=
  h.mono fun _ w'' ⟨he, hb⟩ => ⟨he, ⟨w'', p.h.trans (hb.mono p.h.size)⟩, rfl⟩
theorem cell_by {W0 : World} {g i : Nat} {v : Value} (h : W0.cell? ⟨g, i, none⟩ = some v) (p : BelowBy W0) : p.w.cell? ⟨g, i, none⟩ = some v := (p.h.cell (p := ⟨g, i, none⟩) (World.block_lt_of_cell? W0 _ h)).trans h
theorem stay {W W' : World} {a : Addr} {v : Value} (hb : Below W.heap.size W W') (x : W.cell? a = some v) : W'.cell? a = some v := (hb.cell (World.block_lt_of_cell? _ _ x)).trans x

/-! How far sums are from 0. -/
theorem apply_inv {u c : Int} (hc : 0 ≤ c) : ∀ (es : List Ev) (N : Int) (b : Bal), 0 ≤ N → (∀ e ∈ es, e.ok) → Inv N b → Inv (N + 1000000 * (es.length : Int)) (applyE u c b es)
  | [], N, b, _, _, h => by simpa [applyE] using h
  | e :: r, N, b, h0, ho, h => by
    have a := inv_step (u := u) h h0 hc (ho e (by simp))
    have := apply_inv (u := u) hc r (N + 1000000) (stepE u c b e) (by omega) (fun x hx => ho x (by simp [hx])) a
    show Inv _ (applyE u c (stepE u c b e) r)
    refine this.mono (by simp; omega)
theorem yearL_len (Y0 Ex : Int) (l : List Mv) (y : Int) : (yearL Y0 Ex l y).length ≤ 2 * l.length + 2 := by
  unfold yearL
  have h1 := fun p => List.length_filter_le p l
  have a := h1 (inY (mstart y 1) (mstart y (1 + Ex)))
  have b := h1 (inY (mstart y (1 + Ex)) (jan (y + 1)))
  have c := h1 (inY (mstart y 1) (jan (y + 1)))
  split <;> split <;> simp <;> omega
theorem years_inv {Y0 Ca Ex u : Int} {l : List Mv} (y0 : 1900 ≤ Y0) (c0 : 0 ≤ Ca) (x0 : 0 ≤ Ex) (hl : ∀ x ∈ l, (mvE x).ok) : ∀ i : Nat, Y0 + (i : Int) ≤ 2200 → Inv (1000000 * (i : Int) * (2 * (l.length : Int) + 2)) (yearsE Y0 Ca Ex u l i)
  | 0, _ => by
    show Inv _ ⟨0, 0, 0, 0, 0⟩
    simpa using Inv.zero (N := 0) (by omega)
  | i + 1, h => by
    have ih := years_inv (u := u) y0 c0 x0 hl i (by omega)
    have hn : 0 ≤ 1000000 * (i : Int) * (2 * (l.length : Int) + 2) := by
      have : (0 : Int) ≤ (i : Int) * (2 * (l.length : Int) + 2) := Int.mul_nonneg (by omega) (by omega)
      rw [Int.mul_assoc]; omega
    have := apply_inv (u := u) c0 (yearL Y0 Ex l (Y0 + (i : Int))) _ _ hn (yearL_ok (by omega) (by omega) x0 hl) ih
    have hlen := yearL_len Y0 Ex l (Y0 + (i : Int))
    refine Inv.mono this ?_
    have e : 1000000 * ((i + 1 : Nat) : Int) * (2 * (l.length : Int) + 2) = 1000000 * (i : Int) * (2 * (l.length : Int) + 2) + 1000000 * (2 * (l.length : Int) + 2) := by
      generalize 2 * (l.length : Int) + 2 = q
      rw [show ((i + 1 : Nat) : Int) = (i : Int) + 1 by omega, Int.mul_add, Int.mul_one, Int.add_mul]
    rw [e]
    omega
/-- What is known of an account that was told. -/
theorem fold_inv {Y0 Ca Ex u Y : Int} {n : Nat} {D G T : Nat → Int} (hn : n ≤ 900) (hv : checkV Y0 Ca Ex u n D G T = 0) (hY : yearIn u Y) : Inv 1000000000000 (yearsE Y0 Ca Ex u (mvL n D G T) (Y + 1 - Y0).toNat) := by
  obtain ⟨⟨y0, y9, c0, c9, x0, x9⟩, -, -, hg, -⟩ := check_zero hv
  obtain ⟨u1, u2, -, -⟩ := hY
  by_cases h : Y0 ≤ Y
  · have hI := years_inv (u := u) (l := mvL n D G T) y0 c0 x0 (fun x hx => by obtain ⟨j, hj, rfl⟩ := mvL_mem hx; exact (hg j hj).2.2) (Y + 1 - Y0).toNat (by omega)
    refine Inv.mono hI ?_
    have hl : (mvL n D G T).length = n := by simp [mvL]
    rw [hl]
    have a : ((Y + 1 - Y0).toNat : Int) ≤ 300 := by omega
    have b : (2 * (n : Int) + 2) ≤ 1802 := by omega
    have : ((Y + 1 - Y0).toNat : Int) * (2 * (n : Int) + 2) ≤ 300 * 1802 := Int.mul_le_mul a b (by omega) (by omega)
    rw [Int.mul_assoc]
    omega
  · rw [show (Y + 1 - Y0).toNat = 0 by omega]
    exact Inv.zero (by omega)

end Go.Proofs.YtpejdbnphjheeaaDoor
