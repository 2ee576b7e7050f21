/-
  What is proved: the contract of share.byRests: the places of rests, the greatest ones' first, alike ones' as they stand. Conditions: at most 1000 rests, which lie in memory as the contract says.
-/
import Derived.Test.YtkhjlpjhmdmfiaaSortStable
import Derived.Laws.MakeOwn
import Derived.Deep.AppendSrc
import Derived.Lib.AppendZeros
namespace Go.Proofs.Ytkhjlpjhmdmfiaa
open Go Go.RowKit Go.Proofs

theorem made_at (z : Value) (n j : Nat) (h : j < n) : (madeCells #[z] n)[j]? = some z := by
  unfold madeCells
  rw [Array.getElem?_map, show (Array.range n)[j]? = some j by simp [h]]
  show some (#[z][j % 1]!) = some z
  rw [Nat.mod_one]
  rfl

theorem info_of {P : Program} {t : TypeId} {z : Option Value} {s b : Nat} (h : (P.info? t).map (fun i => (i.zero, i.size, i.bytes)) = some (z, s, b)) : ∃ i, P.info? t = some i ∧ i.zero = z ∧ i.size = s ∧ i.bytes = b := by
  obtain ⟨i, hi, he⟩ := Option.map_eq_some_iff.1 h
  injection he with h1 h2
  injection h2 with h2 h3
  exact ⟨i, hi, h1, h2, h3⟩
theorem infoInt : (Try.prog.info? 3).map (fun i => (i.zero, i.size, i.bytes)) = some (some (.int .i64 0), 1, 8) := by kernel_rfl
theorem infoU64 : (Try.prog.info? 50).map (fun i => (i.zero, i.size, i.bytes)) = some (some (.int .u64 0), 1, 8) := by kernel_rfl
theorem infoCents : (Try.prog.info? 30).map (fun i => (i.zero, i.size, i.bytes)) = some (some (.int .i64 0), 1, 8) := by kernel_rfl
/-- make of a slice of numbers. -/
theorem make_row {t e : TypeId} {k : IntKind} (ht : Try.prog.underlying t = some (.slice e)) (hi : (Try.prog.info? e).map (fun i => (i.zero, i.size, i.bytes)) = some (some (.int k 0), 1, 8)) (n : Nat) (hn : n ≤ 1000) (W : World) :
    (Instr.makeSlice t (.int .i64 (n : Int)) (.int .i64 (n : Int))).run Try.prog W = .ok (.slice (some ⟨W.heap.size, 0, none⟩) n n) (W.alloc (.cells (madeCells #[.int k 0] n) e)) := by
  obtain ⟨i, hi, hz, hs, hb⟩ := info_of hi
  have h := run_make (P := Try.prog) W t e i (.int k 0) ht hi hz .i64 .i64 n n (by omega) (by omega) (by rw [hb]; omega) (by omega)
  rw [hs, Int.toNat_natCast, Nat.mul_one] at h
  exact h
theorem made_cell (k : IntKind) (n j : Nat) (W : World) (e : TypeId) (h : j < n) : (W.alloc (.cells (madeCells #[.int k 0] n) e)).cell? ⟨W.heap.size, j, none⟩ = some (.int k 0) ∧ (W.alloc (.cells (madeCells #[.int k 0] n) e)).frozen? ⟨W.heap.size, j, none⟩ = false := by
  refine ⟨?_, ?_⟩
  · rw [World.cell?_alloc_new]; exact made_at _ n j h
  · simp [World.frozen?_alloc_mark]

/-- What byRests leaves. -/
def ByPost (n : Nat) (r : Nat → Nat) (w : World) (e : Ending) (w' : World) : Prop := ∃ g f, e = .returned (.slice (some ⟨g, 0, none⟩) n n) ∧ w.heap.size ≤ g ∧ g < w'.heap.size ∧ Row w' g n f ∧ Good r f 0 n ∧ Below w.heap.size w w'

set_option maxHeartbeats 1000000 in
set_option maxRecDepth 100000 in
theorem byRests_any (n rb cp : Nat) (r : Nat → Nat) (w : World) (hn : n ≤ 1000) (hrb : rb < w.heap.size) (hc : ∀ j, j < n → w.cell? ⟨rb, j, none⟩ = some (.int .u64 (r j : Int))) :
    Calls Try.prog 30 #[.slice (some ⟨rb, 0, none⟩) n cp] w (ByPost n r w) := by
  have hmk := Lib.hid (make_row Try.underlying65 infoInt n hn)
  have HC := Lib.hid hc
  have hB1 := (Below.refl w.heap.size w).alloc (Nat.le_refl _) (.cells #[.slice (some ⟨rb, 0, none⟩) n cp] 62)
  have hbxc : (w.alloc (.cells #[.slice (some ⟨rb, 0, none⟩) n cp] 62)).cell? ⟨w.heap.size, 0, none⟩ = some (.slice (some ⟨rb, 0, none⟩) n cp) := by rw [World.cell?_alloc_new]; rfl
  have hz1 : (w.alloc (.cells #[.slice (some ⟨rb, 0, none⟩) n cp] 62)).heap.size = w.heap.size + 1 := by simp
  have hmk1 := hmk.out (w.alloc (.cells #[.slice (some ⟨rb, 0, none⟩) n cp] 62))
  rw [hz1] at hmk1
  clear hc
  go_enter Try.func30, Try.ntmps30
  go_wp2
  have HR0 : Hid (Row ((w.alloc (.cells #[.slice (some ⟨rb, 0, none⟩) n cp] 62)).alloc (.cells (madeCells #[.int .i64 0] n) 3)) (w.heap.size + 1) n (fun _ => 0)) := Lib.hid (fun j hj => by
    have h := made_cell .i64 n j (w.alloc (.cells #[.slice (some ⟨rb, 0, none⟩) n cp] 62)) 3 hj
    rw [hz1] at h
    exact h)
  have HS0 : Hid (Rests ((w.alloc (.cells #[.slice (some ⟨rb, 0, none⟩) n cp] 62)).alloc (.cells (madeCells #[.int .i64 0] n) 3)) w.heap.size rb n cp r) := Lib.hid ⟨(World.cell?_alloc_lt _ _ _ (by simp)).trans hbxc, fun j hj => ((World.cell?_alloc_lt _ _ _ (by simp; omega)).trans (World.cell?_alloc_lt _ _ _ hrb)).trans (HC.out j hj)⟩
  have hB0 := hB1.alloc (by simp) (.cells (madeCells #[.int .i64 0] n) 3)
  have hsz0 : w.heap.size + 1 < ((w.alloc (.cells #[.slice (some ⟨rb, 0, none⟩) n cp] 62)).alloc (.cells (madeCells #[.int .i64 0] n) 3)).heap.size := by simp
  have hw0 : w.heap.size ≤ w.heap.size + 1 := by omega
  clear hmk1 hbxc hB1 hz1
  obtain ⟨g, hg⟩ : ∃ g, g = w.heap.size + 1 := ⟨_, rfl⟩
  obtain ⟨bx, hbx⟩ : ∃ bx, bx = w.heap.size := ⟨_, rfl⟩
  have g1 : bx < g := by omega
  have g2 : rb < g := by omega
  have g3 : w.heap.size ≤ g := by omega
  rw [← hg] at HR0 hsz0
  rw [← hbx] at HS0
  simp only [← hg]
  simp only [← hbx]
  clear hg hw0
  generalize ((w.alloc (.cells #[.slice (some ⟨rb, 0, none⟩) n cp] 62)).alloc (.cells (madeCells #[.int .i64 0] n) 3)) = W0 at HR0 HS0 hB0 hsz0 ⊢
  have HBX := Lib.hid hbx
  clear hbx
  go_loopw [4, 10] (fun _ kv wr => ∃ k : Nat, ∃ f : Nat → Nat, k ≤ n ∧ kv = .int .i64 k ∧ Hid (Row wr g n f) ∧ Hid (∀ i, i < k → f i = i) ∧ Hid (Rests wr bx rb n cp r) ∧ Below w.heap.size w wr ∧ g < wr.heap.size) (fun _ kv _ => n - (RowKit.intOf kv).toNat)
  case atStart => exact ⟨0, fun _ => 0, by omega, rfl, HR0, Lib.hid (fun i h => by omega), HS0, hB0, hsz0⟩
  case round =>
    clear HR0 HS0 hB0 hsz0
    obtain ⟨k, f, hk, rfl, HR, HF, HS, hb, hsz⟩ := hrel
    by_cases hlt : k < n
    · have ck := (HR.out k hlt).1
      have fk := (HR.out k hlt).2
      generalize f k = old at ck
      have HR2 := Lib.hid (HR.out.store k k)
      have HF2 : Hid (∀ i, i < k + 1 → putF f k k i = i) := Lib.hid (fun i hi => by unfold putF; by_cases e : i = k; · rw [if_pos e, e]
                                                                                    · rw [if_neg e]; exact HF.out i (by omega))
      have HS2 : Hid (Rests (wr.setCell ⟨g, k, none⟩ (.int .i64 (k : Int))) bx rb n cp r) := Lib.hid (HS.out.below ((Below.refl g wr).setCell (Nat.le_refl _) _) g1 g2)
      go_wp2
      exact ⟨⟨k + 1, putF f k k, by omega, by go_num, HR2, HF2, HS2, hb.setCell g3 _, by simpa [World.setCell] using hsz⟩, by simp [RowKit.intOf]; omega⟩
    · have HSO := sortStable_any g n n bx rb cp r f wr hn g1 g2 (fun i hi => HF.out i (by omega)) HR.out HS.out
      unfold cmpF at HSO
      have HSO := Lib.hid HSO
      go_wp2_with fail
      refine (HSO.out).mono ?_
      rintro e w1 ⟨rfl, ⟨f', hR1, hg1⟩, hb1⟩
      have HR1 := Lib.hid hR1
      have HG1 := Lib.hid hg1
      clear hR1 hg1 HSO
      go_wp2
      go_ret
      exact ⟨g, f', rfl, g3, Nat.lt_of_lt_of_le hsz hb1.size, HR1.out, HG1.out, hb.trans (hb1.mono g3)⟩

end Go.Proofs.Ytkhjlpjhmdmfiaa
