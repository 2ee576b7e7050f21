/-
  What is proved: the walk of LexLong. Conditions: the variable ErrRange holds an error.
-/
import Derived.Test.YtlfcmelencdghaaDoorLxI
import Derived.Test.YtlfcmelencdghaaDoorLxM
import Derived.Lib.SlBytesRow
import Derived.IntWalk
import Derived.Deep.Cut
namespace Go.Proofs.YtlfcmelencdghaaDoor
open Go Go.RowKit Go.Lib Go.Proofs
set_option linter.unusedVariables false

/-- A row of bytes of a call's own. -/
def Row8 (w : World) (g n : Nat) (f : Nat → Int) : Prop := ∀ j, j < n → w.cell? ⟨g, j, none⟩ = some (.int .u8 (f j)) ∧ w.frozen? ⟨g, j, none⟩ = false
theorem Row8.store {w : World} {g n : Nat} {f : Nat → Int} (h : Row8 w g n f) (p : Nat) (x : Int) : Row8 (w.setCell ⟨g, p, none⟩ (.int .u8 x)) g n (fun j => if j = p then x else f j) := by
  intro j hj
  dsimp only
  refine ⟨?_, ?_⟩
  · by_cases e : j = p
    · subst e
      rw [if_pos rfl]
      exact World.cell?_setCell_same _ _ _ (h j hj).1
    · rw [if_neg e, World.cell?_setCell_other _ _ _ _ (by intro h; injection h; omega)]
      exact (h j hj).1
  · rw [World.frozen?_setCell]; exact (h j hj).2
theorem infoByte : (Tryd.prog.info? 5).map (fun i => (i.zero, i.size, i.bytes)) = some (some (.int .u8 0), 1, 1) := by kernel_rfl
theorem make8 (n : Nat) (hn : n ≤ 5000) (W : World) : (Instr.makeSlice 35 (.int .i64 (n : Int)) (.int .i64 (n : Int))).run Tryd.prog W = .ok (.slice (some ⟨W.heap.size, 0, none⟩) n n) (W.alloc (.cells (madeCells #[.int .u8 0] n) 5)) := by
  obtain ⟨i, hi, hz, hsz, hby⟩ := info_of infoByte
  have h := run_make (P := Tryd.prog) W 35 5 i _ Tryd.underlying35 hi hz .i64 .i64 n n (by omega) (by omega) (by rw [hby]; omega) (by omega)
  rw [hsz, Int.toNat_natCast, Nat.mul_one] at h
  exact h
theorem made8 (W : World) (n : Nat) : Row8 (W.alloc (.cells (madeCells #[.int .u8 0] n) 5)) W.heap.size n (fun _ => 0) := fun o ho => by
  refine ⟨?_, by simp [World.frozen?_alloc_mark]⟩
  rw [World.cell?_alloc_new]
  show (madeCells #[Value.int .u8 0] n)[o]? = _
  unfold madeCells
  rw [Array.getElem?_map, show (Array.range n)[o]? = some o by simp [ho]]
  show some (#[Value.int .u8 0][o % 1]!) = _
  rw [Nat.mod_one]; rfl
/-- Bytes made a text: one of as many. -/
theorem conv8 {w : World} {g n : Nat} {f : Nat → Int} (h : Row8 w g n f) (cap : Nat) : (convert 35 9 (.slice (some ⟨g, 0, none⟩) n cap)).run Tryd.prog w = .ok (.string (strOfNums ((List.range n).map f))) w :=
  run_convert_bytes_arg (P := Tryd.prog) w 35 5 Tryd.underlying35 Tryd.underlying5 g 0 n cap ((List.range n).map f) (by simp) (fun i hi => by
    rw [Nat.zero_add, (h i hi).1]
    simp [hi]) 9 Tryd.underlying9
theorem strOf_size (l : List Int) : (strOfNums l).size = l.length := by
  rw [← size_len, strOfNums_data]; simp
theorem lexS_long {l : List UInt8} (h : 4096 < l.length) : (lexS l).e = 4 := by unfold lexS; rw [if_pos h]

/-- All tells words that lie in memory. -/
def AllIn (A : Ans) (w : World) (e : Ending) (w' : World) : Prop :=
  ∃ p c, e = .returned (.tuple #[.slice p A.l.length c, .int .i64 (A.p : Int), .int .i64 A.e]) ∧ ToksIn w' p A.l ∧ Below w.heap.size w w'
theorem AllOk.in {E : TypeId} {A : Ans} {w w' : World} {e : Ending} (h : AllOk E A w e w') : AllIn A w e w' := by
  obtain ⟨p, n, c, rfl, rfl, ho, hb⟩ := h
  exact ⟨p, c, rfl, ToksIn.of_own ho, hb⟩

set_option maxHeartbeats 2000000 in
set_option maxRecDepth 100000 in
theorem walkLexLong (n b : Int) (w : World) (w0 : (Lit.int .u8 n).wf = true) (w1 : (Lit.int .u8 b).wf = true) (hS : Sent w) :
    Calls Tryd.prog 7 #[.int .u8 n, .int .u8 b] w fun e w' => e = .returned (.bool true) ∧ Below w.heap.size w w' := by
  have hn : 0 ≤ n ∧ n ≤ 255 := by
    simp [Lit.wf, IntKind.min, IntKind.max, IntKind.signed, IntKind.bits] at w0
    omega
  have HS := Lib.hid hS
  have HW := Lib.hid (fun W (h : Sent W) => awake_any W h)
  obtain ⟨hn0, hn1⟩ := hn
  clear hS w0 w1
  obtain ⟨k, hk⟩ : ∃ k : Nat, 4092 + n % 9 = (k : Int) := ⟨(4092 + n % 9).toNat, by omega⟩
  have hk1 : 4092 ≤ k := by omega
  have hk2 : k ≤ 4100 := by omega
  obtain ⟨G, hG⟩ : ∃ G, G = w.heap.size := ⟨_, rfl⟩
  have hmk := make8 k (by omega) w
  have hr0 := made8 w k
  have hb0 : Below G w (w.alloc (.cells (madeCells #[.int .u8 0] k) 5)) := by rw [hG]; exact (Below.refl _ _).alloc (Nat.le_refl _) _
  have hz0 : G < (w.alloc (.cells (madeCells #[.int .u8 0] k) 5)).heap.size := by rw [hG]; simp
  rw [← hG] at hmk hr0
  have HG := Lib.hid hG
  have HR0 := Lib.hid hr0
  have hk3 : (k : Int) ≤ 4100 := by omega
  have hk4 : (4092 : Int) ≤ (k : Int) := by omega
  clear hr0 hG hk1 hk2
  go_enter Tryd.func7, Tryd.ntmps7
  go_wp2
  generalize (w.alloc (.cells (madeCells #[.int .u8 0] k) 5)) = W0 at HR0 hb0 hz0 ⊢
  clear hmk hk
  go_loopw [22] (fun kv wr => ∃ (j : Nat) (f : Nat → Int), j ≤ k ∧ kv = .int .i64 j ∧ Hid (Row8 wr G k f) ∧ G < wr.heap.size ∧ Below G w wr) (fun kv _ => k - (RowKit.intOf kv).toNat)
  case atStart => exact ⟨0, _, by omega, rfl, HR0, hz0, hb0⟩
  case round =>
    clear HR0 hb0 hz0
    obtain ⟨j, f, hj, rfl, HR, hz, hb⟩ := hrel
    by_cases hlt : j < k
    · obtain ⟨c1, c2⟩ := HR.out j hlt
      have HR2 := Lib.hid (HR.out.store j 32)
      have hb2 := hb.setCell (p := ⟨G, j, none⟩) (Nat.le_refl G) (.int .u8 32)
      have hz2 : G < (wr.setCell ⟨G, j, none⟩ (.int .u8 32)).heap.size := by simpa using hz
      have i1 : (j : Int) < (k : Int) := by omega
      clear HR hb
      generalize f j = v at c1
      go_wp2
      exact ⟨⟨j + 1, _, by omega, by go_num, HR2, hz2, hb2⟩, by simp [RowKit.intOf]; omega⟩
    · obtain rfl : j = k := by omega
      obtain ⟨m, rfl⟩ : ∃ m, j = m + 1 := ⟨j - 1, by omega⟩
      obtain ⟨c1, c2⟩ := HR.out m (by omega)
      have hr2 := HR.out.store m b
      obtain ⟨S, hS⟩ : ∃ S, S = strOfNums ((List.range (m + 1)).map (fun j => if j = m then b else f j)) := ⟨_, rfl⟩
      have hcv := conv8 hr2 (m + 1)
      rw [← hS] at hcv
      have hss : S.size = m + 1 := by rw [hS, strOf_size]; simp
      have hb2 := hb.setCell (p := ⟨G, m, none⟩) (Nat.le_refl G) (.int .u8 b)
      have hz2 : G < (wr.setCell ⟨G, m, none⟩ (.int .u8 b)).heap.size := by simpa using hz
      have HS2 := Lib.hid hS
      have HR2 := Lib.hid hr2
      have HSS := Lib.hid hss
      have hbw : Below w.heap.size w (wr.setCell ⟨G, m, none⟩ (.int .u8 b)) := by rw [← HG.out]; exact hb2
      have H1 := Lib.hid ((All_any S (by omega) _ (HS.out.below (Nat.le_refl _) hbw)).mono fun _ _ h => h.in)
      have H2 := Lib.hid (fun W => (refAll_any S (by omega) W).mono fun _ _ h => h.in)
      have hE : 4096 < m + 1 → (lexS S.data.toList).e = 4 := fun h => lexS_long (by rw [size_len, hss]; exact h)
      generalize lexS S.data.toList = A at H1 H2 hE
      obtain ⟨L, P, E⟩ := A
      unfold AllIn at H1 H2
      dsimp only at H1 H2 hE
      have HE := Lib.hid hE
      generalize f m = v at c1
      clear hE hS hr2 hss hb HR hz hlt hj
      go_wp2_with fail
      refine (H1.out).mono ?_
      rintro e w2 ⟨p, c, rfl, ht1, hb3⟩
      have hr3 := fun k hk => (⟨(hb3.cell (p := ⟨G, k, none⟩) hz2).trans (HR2.out k hk).1, (hb3.frozen (p := ⟨G, k, none⟩) hz2).trans (HR2.out k hk).2⟩ : _ ∧ _)
      have hcv3 : (convert 35 9 (.slice (some ⟨G, 0, none⟩) (m + 1) (m + 1))).run Tryd.prog w2 = .ok (.string S) w2 := by rw [HS2.out]; exact conv8 hr3 (m + 1)
      clear hcv ht1 hr3
      go_wp2_with fail
      refine (H2.out _).mono ?_
      rintro e w3 ⟨q, d, rfl, ht2, hb4⟩
      clear ht2 hcv3
      have hb5 := hbw.trans ((hb3.trans (hb4.mono hb3.size)).mono hbw.size)
      clear hb3 hb4
      go_wp2_with fail
      refine (HW.out _ (HS.out.below (Nat.le_refl _) hb5)).mono ?_
      rintro e w4 ⟨rfl, hb6⟩
      by_cases hm : 4096 < m + 1
      · obtain rfl : E = 4 := HE.out hm
        have d1 : ¬ (m : Int) + 1 ≤ 4096 := by omega
        go_wp2
        go_ret
        exact ⟨rfl, hb5.trans (hb6.mono hb5.size)⟩
      · have d1 : (m : Int) + 1 ≤ 4096 := by omega
        go_wp2
        go_ret
        exact ⟨rfl, hb5.trans (hb6.mono hb5.size)⟩

end Go.Proofs.YtlfcmelencdghaaDoor
