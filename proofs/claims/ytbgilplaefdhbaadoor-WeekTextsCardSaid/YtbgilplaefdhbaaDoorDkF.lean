/-
  What is proved: the contracts of the closures that add a day's minutes and count it, and what the walk over a span's days wants: weeks compared, free days dropped, a cell that grows. Conditions: as each says.
-/
import Derived.Test.YtbgilplaefdhbaaDoorDkE
import Derived.Test.YtbgilplaefdhbaaDoorDkCross
import Derived.ChangeKeysEq
namespace Go.Proofs.YtbgilplaefdhbaaDoor
open Go Go.RowKit Go.Proofs
set_option linter.unusedVariables false
set_option maxRecDepth 100000

theorem m1_any (g : Nat) (W : World) (acc m : Int) (hc : W.cell? ⟨g, 0, none⟩ = some (.int .i64 acc)) (hf : W.frozen? ⟨g, 0, none⟩ = false) (a0 : 0 ≤ acc) (a1 : acc ≤ 200000000) (m0 : 0 ≤ m) (m1 : m ≤ 1440) :
    Calls Tryd.prog 22 #[.int .i64 m, .pointer (some ⟨g, 0, none⟩)] W fun e w' => e = .returned (.tuple #[]) ∧ w' = W.setCell ⟨g, 0, none⟩ (.int .i64 (acc + m)) := by
  go_enter Tryd.func22, Tryd.ntmps22
  go_wp2
  go_end0
  exact ⟨rfl, rfl⟩
theorem d1_any (g : Nat) (W : World) (acc m : Int) (hc : W.cell? ⟨g, 0, none⟩ = some (.int .i64 acc)) (hf : W.frozen? ⟨g, 0, none⟩ = false) (a0 : 0 ≤ acc) (a1 : acc ≤ 200000000) (m0 : 0 ≤ m) (m1 : m ≤ 1440) :
    Calls Tryd.prog 23 #[.int .i64 m, .pointer (some ⟨g, 0, none⟩)] W fun e w' => e = .returned (.tuple #[]) ∧ (w' = W.setCell ⟨g, 0, none⟩ (.int .i64 (acc + one m)) ∨ m = 0 ∧ w' = W) := by
  by_cases h : m = 0
  · have e1 : (m != 0) = false := by simp [h]
    have HM := Lib.hid h
    clear h
    go_enter Tryd.func23, Tryd.ntmps23
    go_wp2
    go_end0
    exact ⟨rfl, .inr ⟨HM.out, rfl⟩⟩
  · have e1 : (m != 0) = true := by simpa using h
    have HO : Hid (one m = 1) := Lib.hid (by unfold one; rw [if_neg h])
    clear h
    go_enter Tryd.func23, Tryd.ntmps23
    go_wp2
    go_end0
    exact ⟨rfl, .inl (by rw [HO.out])⟩

/-- A week without minutes. -/
def zB (q : Nat → Int) : Bool := q 0 == 0 && (q 1 == 0 && (q 2 == 0 && (q 3 == 0 && (q 4 == 0 && (q 5 == 0 && q 6 == 0)))))
theorem zB_all {q : Nat → Int} (h : zB q = true) : ∀ k, k < 7 → q k = 0 := fun k hk => by
  simp only [zB, Bool.and_eq_true, beq_iff_eq] at h
  have e : k = 0 ∨ k = 1 ∨ k = 2 ∨ k = 3 ∨ k = 4 ∨ k = 5 ∨ k = 6 := by omega
  rcases e with rfl | rfl | rfl | rfl | rfl | rfl | rfl <;> omega
theorem infoInt : ∃ i, Tryd.prog.info? 3 = some i := Option.isSome_iff_exists.1 (by kernel_rfl)
theorem cInt : Tryd.prog.cellsOf 3 = 1 := by kernel_rfl
theorem uWeek : Tryd.prog.underlying 23 = some (.array 7 3) := by kernel_rfl
theorem guardWeek : Tryd.prog.eqGuardType Tryd.prog.depth 23 = false := by kernel_rfl
theorem eqlWeek (q : Nat → Int) (W : World) : (binOp .eql 23 (.agg #[.int .i64 (q 0), .int .i64 (q 1), .int .i64 (q 2), .int .i64 (q 3), .int .i64 (q 4), .int .i64 (q 5), .int .i64 (q 6)]) (.agg #[.int .i64 0, .int .i64 0, .int .i64 0, .int .i64 0, .int .i64 0, .int .i64 0, .int .i64 0])).run Tryd.prog W = .ok (.bool (zB q)) W := by
  obtain ⟨i, hi⟩ := infoInt
  have hu := Tryd.underlying3
  rw [run_eql_struct, run_equalIn_array W 9999 _ _ uWeek hi, show List.range 7 = [0, 1, 2, 3, 4, 5, 6] from rfl, cInt]
  unfold zB
  generalize q 0 = x0
  generalize q 1 = x1
  generalize q 2 = x2
  generalize q 3 = x3
  generalize q 4 = x4
  generalize q 5 = x5
  generalize q 6 = x6
  cases h0 : (x0 == 0)
  · simp [Op.eqItems, go_sem, part, hu, h0]
  cases h1 : (x1 == 0)
  · simp [Op.eqItems, go_sem, part, hu, h0, h1]
  cases h2 : (x2 == 0)
  · simp [Op.eqItems, go_sem, part, hu, h0, h1, h2]
  cases h3 : (x3 == 0)
  · simp [Op.eqItems, go_sem, part, hu, h0, h1, h2, h3]
  cases h4 : (x4 == 0)
  · simp [Op.eqItems, go_sem, part, hu, h0, h1, h2, h3, h4]
  cases h5 : (x5 == 0)
  · simp [Op.eqItems, go_sem, part, hu, h0, h1, h2, h3, h4, h5]
  cases h6 : (x6 == 0) <;> simp [Op.eqItems, go_sem, part, hu, h0, h1, h2, h3, h4, h5, h6]

/-- The rest of a slice of days, behind its first one. -/
theorem tail_run (pf : Option Addr) (r c b o m : Nat) (h : 0 < r) (hp : pf = some ⟨b, o + m, none⟩) (hc : r ≤ c) :
    ∃ pf', (∀ W, (Instr.slice 37 (.slice pf r c) (some (.int .i64 1)) none none).run Tryd.prog W = .ok (.slice pf' (r - 1) (c - 1)) W) ∧ (0 < r - 1 → pf' = some ⟨b, o + (m + 1), none⟩ ∧ r - 1 ≤ c - 1) := by
  refine ⟨if c = 1 then pf else pf.map (·.add 1), fun W => ?_, fun hr => ?_⟩
  · rw [run_slice_l (P := Tryd.prog) (w := W) _ _ _ _ Tryd.underlying37 _ _ (by omega) (by omega)]
    have := Tryd.sizeOf39
    simp [go_sem, this]
  · rw [if_neg (by omega), hp]
    exact ⟨by simp [Addr.add, Nat.add_assoc], by omega⟩

/-- Two worlds that differ in one cell alone. -/
def Only (g : Nat) (a : Int) (W wr : World) : Prop := (∀ b o, b ≠ g → wr.cell? ⟨b, o, none⟩ = W.cell? ⟨b, o, none⟩) ∧ wr.cell? ⟨g, 0, none⟩ = some (.int .i64 a) ∧ wr.frozen? ⟨g, 0, none⟩ = false ∧ Below g W wr
theorem Only.refl {g : Nat} {a : Int} {W : World} (h : W.cell? ⟨g, 0, none⟩ = some (.int .i64 a)) (hf : W.frozen? ⟨g, 0, none⟩ = false) : Only g a W W := ⟨fun _ _ _ => rfl, h, hf, Below.refl _ _⟩
theorem Only.set {g : Nat} {a : Int} {W wr : World} (h : Only g a W wr) (x : Int) : Only g x W (wr.setCell ⟨g, 0, none⟩ (.int .i64 x)) := by
  obtain ⟨h1, h2, h3, h4⟩ := h
  refine ⟨fun b o hb => ?_, World.cell?_setCell_same _ _ _ h2, (World.frozen?_setCell ..).trans h3, h4.setCell (p := ⟨g, 0, none⟩) (Nat.le_refl _) _⟩
  rw [World.cell?_setCell_other _ _ _ _ (fun e => by injection e with e1 _; exact hb (by omega))]
  exact h1 b o hb

theorem cross_lo (a b : Int) : (crossS (a, b) (-25567, 84006)).1 ≤ (crossS (a, b) (-25567, 84006)).2 ∧ -25567 ≤ (crossS (a, b) (-25567, 84006)).1 ∧ (crossS (a, b) (-25567, 84006)).2 ≤ 84006 ∧ ((crossS (a, b) (-25567, 84006)).2 - (crossS (a, b) (-25567, 84006)).1).toNat = cnt a b ∧ (0 < cnt a b → (crossS (a, b) (-25567, 84006)).1 = lo a) := by
  unfold crossS cnt lo
  dsimp only
  split <;> dsimp only <;> omega

end Go.Proofs.YtbgilplaefdhbaaDoor
