/-
  What is proved: the contracts of before.Sum, and of the statements' own table, alike and awake. Conditions: what is handed in lies in memory as the contract says.
-/
import Derived.Test.YtaeldoipflcknaaBfI
import Derived.Test.YtaeldoipflcknaaCeB
import Derived.Laws.MakeOwn
namespace Go.Proofs.Ytaeldoipflcknaa
open Go Go.RowKit Go.Lib Go.Proofs
open Ra (fitsB fitsB_iff)
set_option linter.unusedVariables false

theorem infoCents : (Try.prog.info? 22).map (fun i => (i.zero, i.size, i.bytes)) = some (some (.int .i64 0), 1, 8) := by kernel_rfl
theorem make_any {t e : TypeId} {z : Value} {s b : Nat} (ht : Try.prog.underlying t = some (.slice e)) (hi : (Try.prog.info? e).map (fun i => (i.zero, i.size, i.bytes)) = some (some z, s, b)) (hb : b ≤ 64) (hs : s ≤ 64) (n : Nat) (hn : n ≤ 1000) (W : World) :
    (Instr.makeSlice t (.int .i64 (n : Int)) (.int .i64 (n : Int))).run Try.prog W = .ok (.slice (some ⟨W.heap.size, 0, none⟩) n n) (W.alloc (.cells (madeCells z.cells (n * s)) e)) := by
  obtain ⟨i, hi, hz, hsz, hby⟩ := info_of hi
  have h1 : n * i.bytes ≤ 1000 * 64 := Nat.mul_le_mul hn (by omega)
  have h2 : n * i.size ≤ 1000 * 64 := Nat.mul_le_mul hn (by omega)
  have h := run_make (P := Try.prog) W t e i z ht hi hz .i64 .i64 n n (by omega) (by omega) (by rw [← Int.natCast_mul, Nat.mul_comm]; omega) (by omega)
  rw [hsz, Int.toNat_natCast] at h
  exact h
/-- Numbers in a block that may be written: the first k of them are a list's. -/
def Nm (w : World) (g n k : Nat) (W : Ti) : Prop := g < w.heap.size ∧ ∀ j, j < n → (∃ v, w.cell? ⟨g, j, none⟩ = some v) ∧ w.frozen? ⟨g, j, none⟩ = false ∧ (j < k → w.cell? ⟨g, j, none⟩ = some (.int .i64 (W.getD j d0).2))
theorem Nm.made (w : World) (n : Nat) (W : Ti) : Nm (w.alloc (.cells (madeCells #[.int .i64 0] n) 22)) w.heap.size n 0 W := by
  refine ⟨by simp, fun j hj => ⟨⟨.int .i64 0, ?_⟩, by simp, fun h => absurd h (Nat.not_lt_zero _)⟩⟩
  rw [World.cell?_alloc_new]
  unfold madeCells
  rw [Array.getElem?_map, Array.getElem?_range]
  simp [hj, Nat.mod_one]
theorem Nm.below {w w' : World} {g n k : Nat} {W : Ti} (h : Nm w g n k W) (hb : Below w.heap.size w w') : Nm w' g n k W :=
  ⟨Nat.lt_of_lt_of_le h.1 hb.size, fun j hj => by
    obtain ⟨⟨v, hv⟩, h2, h3⟩ := h.2 j hj
    exact ⟨⟨v, (hb.cell (p := ⟨g, j, none⟩) h.1).trans hv⟩, (hb.frozen (p := ⟨g, j, none⟩) h.1).trans h2, fun hk => (hb.cell (p := ⟨g, j, none⟩) h.1).trans (h3 hk)⟩⟩
theorem Nm.put {w : World} {g n k : Nat} {W : Ti} (h : Nm w g n k W) (hk : k < n) : Nm (w.setCell ⟨g, k, none⟩ (.int .i64 (W.getD k d0).2)) g n (k + 1) W := by
  refine ⟨by simp; exact h.1, fun j hj => ?_⟩
  obtain ⟨⟨v, hv⟩, h2, h3⟩ := h.2 j hj
  by_cases e : j = k
  · subst e
    exact ⟨⟨_, set_in hv⟩, by rw [World.frozen?_setCell]; exact h2, fun _ => set_in hv⟩
  · have e2 := @set_off w g k j (.int .i64 (W.getD k d0).2) (fun h => e h.symm)
    exact ⟨⟨v, e2.trans hv⟩, by rw [World.frozen?_setCell]; exact h2, fun hj2 => e2.trans (h3 (by omega))⟩
/-- The amounts of items. -/
def amt (W : Ti) : List Int := W.map Prod.snd
theorem Nm.row {w : World} {g : Nat} {W : Ti} (h : Nm w g W.length W.length W) (hn : W.length ≤ maxLen) : Ce.Row w (.slice (some ⟨g, 0, none⟩) W.length W.length) (amt W) := by
  have hl : (amt W).length = W.length := by simp [amt]
  refine ⟨some ⟨g, 0, none⟩, W.length, by rw [hl], by rw [hl]; exact hn, .inr ⟨g, 0, rfl, fun i c hc => ?_⟩⟩
  have hi : i < W.length := by rw [← hl]; exact (List.getElem?_eq_some_iff.1 hc).1
  have h3 := (h.2 i hi).2.2 hi
  rw [Nat.zero_add, h3]
  unfold amt at hc
  rw [List.getElem?_map, List.getElem?_eq_getElem hi] at hc
  simp only [Option.map_some, Option.some.injEq] at hc
  rw [List.getD_eq_getElem?_getD, List.getElem?_eq_getElem hi, ← hc]
  rfl
set_option maxHeartbeats 4000000 in
set_option maxRecDepth 100000 in
theorem bSum_any (p : Option Addr) (cp : Nat) (W : Ti) (w : World) (hn : W.length ≤ 1000) (h : ItLs w p W) :
    Calls Try.prog 17 #[.slice p W.length cp] w fun e w' => e = .returned (.tuple #[.int .i64 (Ce.sumVE 0 (amt W)).1, .int .i64 (Ce.sumVE 0 (amt W)).2]) ∧ Below w.heap.size w w' := by
  have HI := Lib.hid h
  clear h
  have hmk := make_any (z := .int .i64 0) Try.underlying56 infoCents (by omega) (by omega) W.length hn w
  rw [Nat.mul_one, show (Value.int .i64 0).cells = #[.int .i64 0] from rfl] at hmk
  have hN0 := Nm.made w W.length W
  have hB0 := (Below.refl w.heap.size w).alloc (Nat.le_refl _) (.cells (madeCells #[.int .i64 0] W.length) 22)
  have hS := Lib.hid (fun V h => Ce.sum_row (.slice (some ⟨w.heap.size, 0, none⟩) W.length W.length) (amt W) V h)
  generalize Ce.sumVE 0 (amt W) = R at hS ⊢
  obtain ⟨r1, r2⟩ := R
  dsimp only at hS ⊢
  go_enter Try.func17, Try.ntmps17
  go_wp2
  clear hmk
  generalize w.alloc (.cells (madeCells #[.int .i64 0] W.length) 22) = W0 at hN0 hB0 ⊢
  go_loopw [12] (fun iv wr => ∃ k : Nat, k ≤ W.length ∧ iv = .int .i64 k ∧ Hid (Nm wr w.heap.size W.length k W) ∧ Hid (Below w.heap.size w wr)) (fun iv _ => W.length - (RowKit.intOf iv).toNat)
  case atStart => exact ⟨0, Nat.zero_le _, rfl, Lib.hid hN0, Lib.hid hB0⟩
  case round =>
    clear hN0 hB0
    rename World => wq
    obtain ⟨k, hk, rfl, HN, HB⟩ := hrel
    by_cases hlt : k < W.length
    case neg =>
      obtain rfl : k = W.length := by omega
      have HR := Lib.hid (hS.out wq (HN.out.row (by unfold maxLen; omega)))
      clear hS
      go_wp2_with fail
      refine (HR.out).mono ?_
      rintro e w4 ⟨rfl, rfl⟩
      go_wp2
      go_ret2
      exact ⟨rfl, HB.out⟩
    case pos =>
      obtain ⟨b, o, rfl, hb9, c0, c1⟩ := ItIn.at HI.out hlt
      replace c0 := (HB.out.cell (p := ⟨b, o + k * 2, none⟩) hb9).trans c0
      replace c1 := (HB.out.cell (p := ⟨b, o + k * 2 + 1, none⟩) hb9).trans c1
      obtain ⟨W1, hW1⟩ : ∃ W1, W1 = wq.alloc (.cells #[.string (W.getD k d0).1, .int .i64 (W.getD k d0).2] 43) := ⟨_, rfl⟩
      have hk1 : Below wq.heap.size wq W1 := by rw [hW1]; exact (Below.refl _ _).alloc (Nat.le_refl _) _
      have e1 : W1.cell? ⟨wq.heap.size, 1, none⟩ = some (.int .i64 (W.getD k d0).2) := by rw [hW1, World.cell?_alloc_new]; rfl
      have hN1 := HN.out.below hk1
      have HN2 := Lib.hid (hN1.put hlt)
      obtain ⟨⟨v0, hv0⟩, hf0, -⟩ := hN1.2 k hlt
      have HB1 := Lib.hid (HB.out.trans (hk1.mono HB.out.size))
      have i2 : (k : Int) < (W.length : Int) := by omega
      have i3 : (0 : Int) ≤ (k : Int) := by omega
      clear hN1 hk1 HN HB
      generalize W.getD k d0 = it at *
      obtain ⟨s, c⟩ := it
      dsimp only at *
      go_upto_region 5 with fail
      rw [← hW1]
      clear hW1 c0 c1
      generalize wq.heap.size = g16 at e1 ⊢
      go_wp2
      exact ⟨⟨k + 1, by omega, by go_num, HN2, Lib.hid (HB1.out.setCell (by show w.heap.size ≤ w.heap.size; omega) _)⟩, by simp [RowKit.intOf]; omega⟩

end Go.Proofs.Ytaeldoipflcknaa
