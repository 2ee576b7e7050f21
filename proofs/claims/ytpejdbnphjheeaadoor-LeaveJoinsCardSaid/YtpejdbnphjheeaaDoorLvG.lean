/-
  What is proved: what is kept of a balance in memory while leave's Fold goes through the years, and the walk of one year's acts. Conditions: as each says.
-/
import Derived.Test.YtpejdbnphjheeaaDoorLvF
namespace Go.Proofs.YtpejdbnphjheeaaDoor
open Go Go.RowKit Go.Proofs Go.Proofs.YtpejdbnphjheeaaDoor.Cv
set_option linter.unusedVariables false

/-- A balance that lies in a block. -/
def BalAt (w : World) (g : Nat) (b : Bal) : Prop := w.heap[g]? = some (.cells #[.int .i64 b.fr, .int .i64 b.ca, .int .i64 b.gr, .int .i64 b.ta, .int .i64 b.lo] 50 (0, 0))
theorem BalAt.below {w w' : World} {g : Nat} {b : Bal} (h : BalAt w g b) (hb : Below w.heap.size w w') : BalAt w' g b := (hb.block g (lt_of_at h)).trans h
theorem BalAt.cells {w : World} {g : Nat} {b : Bal} (h : BalAt w g b) : w.cell? ⟨g, 0, none⟩ = some (.int .i64 b.fr) ∧ w.cell? ⟨g, 1, none⟩ = some (.int .i64 b.ca) ∧ w.cell? ⟨g, 2, none⟩ = some (.int .i64 b.gr) ∧ w.cell? ⟨g, 3, none⟩ = some (.int .i64 b.ta) ∧ w.cell? ⟨g, 4, none⟩ = some (.int .i64 b.lo) :=
  ⟨cell_of h 0 rfl, cell_of h 1 rfl, cell_of h 2 rfl, cell_of h 3 rfl, cell_of h 4 rfl⟩
theorem BalAt.frozen {w : World} {g : Nat} {b : Bal} (h : BalAt w g b) (i : Nat) : w.frozen? ⟨g, i, none⟩ = false := by
  have h' : w.heap[g]? = _ := h
  simp [World.frozen?, h']
theorem heap_set (w : World) (g i : Nat) (u : Value) (cs : Array Value) (T : TypeId) (h : w.heap[g]? = some (.cells cs T (0, 0))) : (w.setCell ⟨g, i, none⟩ u).heap[g]? = some (.cells (cs.setIfInBounds i u) T (0, 0)) := by
  simp only [World.setCell, Array.getElem?_modify, if_true, h, Option.map_some]
  rfl
/-- A balance stored over another one. -/
def putB (w : World) (g : Nat) (b : Bal) : World := ((((w.setCell ⟨g, 0, none⟩ (.int .i64 b.fr)).setCell ⟨g, 1, none⟩ (.int .i64 b.ca)).setCell ⟨g, 2, none⟩ (.int .i64 b.gr)).setCell ⟨g, 3, none⟩ (.int .i64 b.ta)).setCell ⟨g, 4, none⟩ (.int .i64 b.lo)
theorem putB_at {w : World} {g : Nat} {a b : Bal} (h : BalAt w g a) : BalAt (putB w g b) g b := by
  have h' : w.heap[g]? = _ := h
  have := heap_set _ g 4 (.int .i64 b.lo) _ _ (heap_set _ g 3 (.int .i64 b.ta) _ _ (heap_set _ g 2 (.int .i64 b.gr) _ _ (heap_set _ g 1 (.int .i64 b.ca) _ _ (heap_set _ g 0 (.int .i64 b.fr) _ _ h'))))
  exact this
theorem putB_but {w0 w : World} {g : Nat} (h : Ss.But g w0 w) (b : Bal) : Ss.But g w0 (putB w g b) := ((((h.setCell _ _).setCell _ _).setCell _ _).setCell _ _).setCell _ _
theorem but_below {g : Nat} {a w w' : World} (h : Ss.But g a w) (hb : Below w.heap.size w w') : Ss.But g a w' := h.trans ⟨hb.os, hb.tape, hb.output, hb.size, fun k hk _ => hb.block k hk⟩
/-- A row of sorted acts stays where the balance alone is turned. -/
theorem row_but {g b n : Nat} {w w' : World} {K : Ss.Els} {f : Nat → Nat} (h : Ss.Row w g n K f) (hb : Ss.But b w w') (hn : g ≠ b) : Ss.Row w' g n K f := by
  refine ⟨Nat.lt_of_lt_of_le h.1 hb.size, fun j hj => ?_⟩
  obtain ⟨a1, a2, a3, a4⟩ := h.2 j hj
  refine ⟨(hb.cell (p := ⟨g, j * 2, none⟩) h.1 hn).trans a1, (hb.cell (p := ⟨g, j * 2 + 1, none⟩) h.1 hn).trans a2, ?_, ?_⟩
  · rw [← a3]; simp only [World.frozen?, hb.block g h.1 hn]
  · rw [← a4]; simp only [World.frozen?, hb.block g h.1 hn]
/-- What the acts make of a balance, so many of them. -/
def actsB (u c : Int) (es : List Ev) (f : Nat → Nat) (b : Bal) (i : Nat) : Bal := ((List.range i).map (fun j => es.getD (f j) (.exp 0))).foldl (stepE u c) b
theorem actsB_succ (u c : Int) (es : List Ev) (f : Nat → Nat) (b : Bal) (i : Nat) : actsB u c es f b (i + 1) = stepE u c (actsB u c es f b i) (es.getD (f i) (.exp 0)) := by
  unfold actsB
  rw [List.range_succ, List.map_append, List.foldl_append]; rfl
/-- Worlds in the course of Fold: a plan's box, a result's box, a balance. -/
structure FoldW (w0 : World) (gp gr gb : Nat) (Y0 Ca Ex : Int) (b : Bal) (wr : World) : Prop where
  below : Below w0.heap.size w0 wr
  plan : wr.heap[gp]? = some (.cells #[.int .i64 Y0, .int .i64 Ca, .int .i64 Ex] 23 (0, 0))
  res : wr.heap[gr]? = some (.cells #[.int .i64 0, .int .i64 0, .int .i64 0, .int .i64 0] 28 (0, 0))
  bal : BalAt wr gb b
  gp0 : w0.heap.size ≤ gp
  gr0 : w0.heap.size ≤ gr
  gb0 : w0.heap.size ≤ gb
theorem FoldW.keep {w0 wr w' : World} {gp gr gb : Nat} {Y0 Ca Ex : Int} {b : Bal} (h : FoldW w0 gp gr gb Y0 Ca Ex b wr) (hb : Below wr.heap.size wr w') : FoldW w0 gp gr gb Y0 Ca Ex b w' :=
  ⟨h.below.trans (hb.mono h.below.size), (hb.block _ (lt_of_at h.plan)).trans h.plan, (hb.block _ (lt_of_at h.res)).trans h.res, h.bal.below hb, h.gp0, h.gr0, h.gb0⟩
theorem at_ne {w : World} {g h : Nat} {a b : Array Value} {S T : TypeId} (h1 : w.heap[g]? = some (.cells a S (0, 0))) (h2 : w.heap[h]? = some (.cells b T (0, 0))) (hn : S ≠ T) : g ≠ h := fun e => by
  subst e
  rw [h1] at h2
  injection h2 with h2
  injection h2 with _ h2
  exact hn h2
theorem FoldW.put {w0 wr : World} {gp gr gb : Nat} {Y0 Ca Ex : Int} {b : Bal} (h : FoldW w0 gp gr gb Y0 Ca Ex b wr) (b' : Bal) : FoldW w0 gp gr gb Y0 Ca Ex b' (putB wr gb b') := by
  have hB := putB_but (Ss.But.refl gb wr) b'
  have n1 := at_ne h.plan h.bal (by decide)
  have n2 := at_ne h.res h.bal (by decide)
  exact ⟨h.below.trans (hB.below h.gb0 h.below.size), (hB.block _ (lt_of_at h.plan) n1).trans h.plan, (hB.block _ (lt_of_at h.res) n2).trans h.res, putB_at h.bal, h.gp0, h.gr0, h.gb0⟩
theorem FoldW.plan1 {w0 wr : World} {gp gr gb : Nat} {Y0 Ca Ex : Int} {b : Bal} (h : FoldW w0 gp gr gb Y0 Ca Ex b wr) : wr.cell? ⟨gp, 0, none⟩ = some (.int .i64 Y0) ∧ wr.cell? ⟨gp, 1, none⟩ = some (.int .i64 Ca) ∧ wr.cell? ⟨gp, 2, none⟩ = some (.int .i64 Ex) := ⟨cell_of h.plan 0 rfl, cell_of h.plan 1 rfl, cell_of h.plan 2 rfl⟩
/-- What Fold hands back. -/
def accV (b : Bal) : Value := .agg #[.int .i64 b.gr, .int .i64 b.ta, .int .i64 b.lo, .int .i64 (b.fr + b.ca)]
def yearIn (u Y : Int) : Prop := 1900 ≤ Y ∧ Y ≤ 2199 ∧ jan Y ≤ u ∧ u < jan (Y + 1)
theorem year_one {u Y Z : Int} (h : yearIn u Y) (k : yearIn u Z) : Y = Z := by
  have a := @jan_le Y (Z) u h.2.2.1 h.2.2.2
  have b := @jan_le Z (Y) u k.2.2.1 k.2.2.2
  have h4 := h.2.2.2
  have k4 := k.2.2.2
  by_cases c : Z < Y
  · have := a.1 c; omega
  · by_cases c2 : Y < Z
    · have := b.1 c2; omega
    · omega
def FoldPost (Y0 Ca Ex u : Int) (n : Nat) (D G T : Nat → Int) (w : World) (e : Ending) (w' : World) : Prop := Below w.heap.size w w' ∧
  ((checkV Y0 Ca Ex u n D G T ≠ 0 ∧ e = .returned (.tuple #[.agg #[.int .i64 0, .int .i64 0, .int .i64 0, .int .i64 0], .int .i64 (checkV Y0 Ca Ex u n D G T)])) ∨
   (checkV Y0 Ca Ex u n D G T = 0 ∧ ∃ Y, yearIn u Y ∧ e = .returned (.tuple #[accV (yearsE Y0 Ca Ex u (mvL n D G T) (Y + 1 - Y0).toNat), .int .i64 0])))
theorem check_zero {Y0 Ca Ex u : Int} {n : Nat} {D G T : Nat → Int} (h : checkV Y0 Ca Ex u n D G T = 0) : (1900 ≤ Y0 ∧ Y0 ≤ 2199 ∧ 0 ≤ Ca ∧ Ca ≤ 1000000 ∧ 0 ≤ Ex ∧ Ex ≤ 12) ∧ inB u = true ∧ n ≤ 4096 ∧ (∀ j, j < n → inB (D j) = true ∧ jan Y0 ≤ D j ∧ (Ev.mv (D j) (G j) (T j)).ok) ∧ ∀ i j, i ≤ j → j < n → D i ≤ D j := by
  unfold checkV at h
  split at h
  · cases h
  · rename_i hb
    unfold badPlan at hb
    split at h
    · cases h
    · rename_i hu
      split at h
      · cases h
      · rename_i hn
        have hz := firstE_zero h
        have hg : ∀ j, j < n → (inB (D j) = true ∧ jan Y0 ≤ D j) ∧ (0 < j → D (j - 1) ≤ D j) ∧ 0 ≤ G j ∧ G j ≤ 1000000 ∧ 0 ≤ T j ∧ T j ≤ 1000000 := fun j hj => by
          have := hz j hj
          unfold mvErr at this
          split at this
          · cases this
          · rename_i h1
            split at this
            · cases this
            · rename_i h2
              split at this
              · cases this
              · rename_i h3
                rw [Bool.eq_false_iff] at h1
                refine ⟨⟨by simpa using fun e => h1 (.inl e), by omega⟩, fun hp => ?_, by omega⟩
                by_cases c : D j < D (j - 1)
                · exact absurd ⟨hp, c⟩ h2
                · omega
        refine ⟨by omega, by simpa using hu, by omega, fun j hj => ?_, fun i j hij hj => ?_⟩
        · obtain ⟨⟨a, b⟩, c, d⟩ := hg j hj
          have := (inB_iff.1 a).2
          exact ⟨a, b, by simp only [Ev.ok]; omega⟩
        · induction j with
          | zero => rw [show i = 0 by omega]; exact Int.le_refl _
          | succ j ih =>
            by_cases e : i = j + 1
            · rw [e]; exact Int.le_refl _
            · have a := ih (by omega) (by omega)
              have b := (hg (j + 1) hj).2.1 (by omega)
              rw [Nat.add_sub_cancel] at b
              omega

theorem MvIn.rest {w : World} {p : Option Addr} {n m : Nat} {D G T : Nat → Int} (h : MvIn w p n D G T) (hm : m ≤ n) : MvIn w (Option.map (fun x => x.add (m * 3)) p) (n - m) (fun j => D (m + j)) (fun j => G (m + j)) (fun j => T (m + j)) := by
  rcases h with h | ⟨b, o, rfl, hc⟩
  · exact .inl (by omega)
  · refine .inr ⟨b, o + m * 3, by simp [Addr.add], fun j hj => ?_⟩
    have := hc (m + j) (by omega)
    rw [show o + m * 3 + j * 3 = o + (m + j) * 3 by omega]
    exact this

theorem ahead_all {E : Int} {n : Nat} {D : Nat → Int} (hmono : ∀ i j, i ≤ j → j < n → D i ≤ D j) {j : Nat} (h : ahead D E n ≤ j) (hj : j < n) : E ≤ D j :=
  Int.le_trans (ahead_ge n D (by omega)) (hmono _ _ h hj)
theorem next_is {E F : Int} {n j0 m : Nat} {D : Nat → Int} (hEF : E ≤ F) (hmono : ∀ i j, i ≤ j → j < n → D i ≤ D j) (hj0 : j0 = ahead D E n) (hm : ahead (fun j => D (j0 + j)) F (n - j0) = m) : j0 + m = ahead D F n := by
  have hle := ahead_le n D (E := E)
  have hme := ahead_le (n - j0) (fun j => D (j0 + j)) (E := F)
  refine (ahead_is (by omega) (fun j hj => ?_) (fun h => ?_)).symm
  · by_cases c : j < j0
    · have := ahead_lt n D j (by omega) (E := E); omega
    · have := ahead_lt (n - j0) (fun j => D (j0 + j)) (j - j0) (by omega) (E := F)
      simpa [show j0 + (j - j0) = j by omega] using this
  · have := ahead_ge (n - j0) (fun j => D (j0 + j)) (by omega) (E := F)
    rw [hm] at this
    exact this
/-- What a year's sorted acts make of a balance. -/
theorem year_is {Y0 Ca Ex u y : Int} {n j0 m N : Nat} {D G T : Nat → Int} {f : Nat → Nat} {L : List Sl} {B : Bal} {es : List Ev} (y1 : 1900 ≤ y) (y2 : y ≤ 2199) (x0 : 0 ≤ Ex) (hmono : ∀ i j, i ≤ j → j < n → D i ≤ D j) (hin : ∀ j, j < n → inB (D j) = true) (hj0 : j0 = ahead D (jan y) n) (hm : ahead (fun j => D (j0 + j)) (jan (y + 1)) (n - j0) = m)
    (hes : es = evsOf Y0 Ex y m (fun j => D (j0 + j)) (fun j => G (j0 + j)) (fun j => T (j0 + j))) (hN : N = es.length) (hL : ∀ x, x < N → (Sl.get L x).1 = (es.getD x (.exp 0)).day) (hf : Ss.Good (Ss.rank (els L)) f 0 N) :
    actsB u Ca es f B N = applyE u Ca B (yearL Y0 Ex (mvL n D G T) y) := by
  have hle := ahead_le n D (E := jan y)
  have hme := ahead_le (n - j0) (fun j => D (j0 + j)) (E := jan (y + 1))
  have lo : ∀ j, j < m → mstart y 1 ≤ D (j0 + j) := fun j hj => by rw [mstart_jan]; exact ahead_all hmono (by omega) (by omega)
  have mo : ∀ i j, i ≤ j → j < m → D (j0 + i) ≤ D (j0 + j) := fun i j h1 h2 => hmono _ _ (by omega) (by omega)
  obtain ⟨k, hk⟩ : ∃ k, k = if Ex < 12 then ahead (fun j => D (j0 + j)) (mstart y (1 + Ex)) m else m := ⟨_, rfl⟩
  have hkm : k ≤ m := by rw [hk]; split; exact ahead_le _ _; exact Nat.le_refl _
  have m4 : Ex < 12 → ∀ j, j < k → D (j0 + j) < mstart y (1 + Ex) := fun hx j hj => by rw [hk, if_pos hx] at hj; exact ahead_lt m (fun j => D (j0 + j)) j hj
  have m5 : Ex < 12 → ∀ j, k ≤ j → j < m → mstart y (1 + Ex) ≤ D (j0 + j) := fun hx j h1 h2 => by rw [hk, if_pos hx] at h1; exact ahead_all (n := m) (D := fun j => D (j0 + j)) mo h1 h2
  have m6 : ¬ Ex < 12 → k = m := fun hx => by rw [hk, if_neg hx]
  clear hk
  have hnx := next_is (F := jan (y + 1)) (by have := jan_mono y (y + 1) (by omega); omega) hmono hj0 hm
  have hs := sorted_is (Y0 := Y0) (G := fun j => G (j0 + j)) (T := fun j => T (j0 + j)) hkm y1 y2 x0 lo mo m4 m5 m6 (fun j hj => by have := (inB_iff.1 (hin (j0 + j) (by omega))).2; show D (j0 + j) ≤ 84006; omega) (N := N) (r := Ss.rank (els L)) (f := f) (by rw [← hes]; exact hN) (fun x hx => by rw [← hes]; unfold Ss.rank; show (1000000 - (Sl.get L x).1).toNat = _; rw [hL x hx]) hf
  rw [← hes] at hs
  unfold actsB applyE
  rw [hs, canon_is hkm (show j0 + m ≤ n by omega) x0 (fun j hj => by rw [mstart_jan]; exact ahead_lt n D j (by omega)) (fun j h1 h2 => ⟨by rw [mstart_jan]; exact ahead_all hmono (by omega) (by omega), ?_⟩) (fun j h1 h2 => ahead_all hmono (by omega) h2) m4 m5 m6 (fun hx => ⟨mstart_up x0, mstart_dn x0 hx⟩)]
  have := ahead_lt (n - j0) (fun j => D (j0 + j)) (j - j0) (by omega) (E := jan (y + 1))
  simpa [show j0 + (j - j0) = j by omega] using this

theorem mvL_mem {n : Nat} {D G T : Nat → Int} {x : Mv} (h : x ∈ mvL n D G T) : ∃ j, j < n ∧ x = (D j, G j, T j) := by
  unfold mvL at h
  obtain ⟨j, hj, rfl⟩ := List.mem_map.1 h
  exact ⟨j, List.mem_range.1 hj, rfl⟩
/-- What the years make, where the loop is left ahead of its end. -/
theorem brk_is {Y0 Ca Ex u Yu : Int} {n i K : Nat} {D G T : Nat → Int} {N : Int} (y0 : 1900 ≤ Y0) (c0 : 0 ≤ Ca) (x0 : 0 ≤ Ex) (hU : yearIn u Yu) (hK : K = (Yu + 1 - Y0).toNat) (hlt : Y0 + (i : Int) ≤ Yu) (hok : ∀ j, j < n → (Ev.mv (D j) (G j) (T j)).ok) (hI : Inv N (yearsE Y0 Ca Ex u (mvL n D G T) i))
    (hall : n ≤ ahead D (jan (Y0 + (i : Int) + 1)) n) (h : yearsE Y0 Ca Ex u (mvL n D G T) (i + 1) = yearsE Y0 Ca Ex u (mvL n D G T) i) : yearsE Y0 Ca Ex u (mvL n D G T) K = yearsE Y0 Ca Ex u (mvL n D G T) (i + 1) := by
  obtain ⟨u1, u2, u3, u4⟩ := hU
  have hs : Settled (yearsE Y0 Ca Ex u (mvL n D G T) (i + 1)) := by
    rw [h]
    by_cases e : i = 0
    · subst e; exact ⟨rfl, by show (0 : Int) ≤ 0; omega⟩
    · have hj := jan_mono (Y0 + (i : Int)) Yu hlt
      refine settles (Y0 := Y0) (Ex := Ex) (u := u) (y := Y0 + (i : Int)) (l := mvL n D G T) c0 (by omega) (by omega) x0 (fun x hx => ?_) hI.ca (by omega) (by rw [mstart_jan]; omega) h
      obtain ⟨j, hj, rfl⟩ := mvL_mem hx
      exact hok j hj
  have hn : ∀ x ∈ mvL n D G T, x.1 < jan (Y0 + ((i + 1 : Nat) : Int)) := fun x hx => by
    obtain ⟨j, hj, rfl⟩ := mvL_mem hx
    have := ahead_lt n D j (by omega) (E := jan (Y0 + (i : Int) + 1))
    rw [show Y0 + ((i + 1 : Nat) : Int) = Y0 + (i : Int) + 1 by omega]
    exact this
  have := years_stay c0 x0 hs hn (K - (i + 1))
  rwa [show i + 1 + (K - (i + 1)) = K by omega] at this

end Go.Proofs.YtpejdbnphjheeaaDoor
