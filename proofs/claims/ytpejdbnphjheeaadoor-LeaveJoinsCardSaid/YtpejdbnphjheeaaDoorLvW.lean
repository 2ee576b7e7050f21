/-
  What is proved: moves in a row of the call's own: appended, put, changed about; and that two moves of one day that only grant, or only take, may change places. Conditions: as each says.
-/
import Derived.Test.YtpejdbnphjheeaaDoorLvU
namespace Go.Proofs.YtpejdbnphjheeaaDoor
open Go Go.RowKit Go.Proofs Go.Proofs.YtpejdbnphjheeaaDoor.Cv
set_option linter.unusedVariables false

def mvC (n : Nat) (D G T : Nat → Int) : List Value := (List.range n).flatMap (fun j => [.int .i64 (D j), .int .i64 (G j), .int .i64 (T j)])
theorem mvC_succ (n : Nat) (D G T : Nat → Int) : mvC (n + 1) D G T = mvC n D G T ++ [.int .i64 (D n), .int .i64 (G n), .int .i64 (T n)] := by
  unfold mvC; rw [List.range_succ, List.flatMap_append]; simp
theorem mvC_len : ∀ (n : Nat) (D G T : Nat → Int), (mvC n D G T).length = n * 3
  | 0, _, _, _ => rfl
  | n + 1, D, G, T => by rw [mvC_succ, List.length_append, mvC_len n]; simp; omega
theorem mvC_at : ∀ (n : Nat) (D G T : Nat → Int) (j : Nat), j < n → (mvC n D G T)[j * 3]? = some (.int .i64 (D j)) ∧ (mvC n D G T)[j * 3 + 1]? = some (.int .i64 (G j)) ∧ (mvC n D G T)[j * 3 + 2]? = some (.int .i64 (T j))
  | n + 1, D, G, T, j, h => by
    rw [mvC_succ]
    by_cases c : j < n
    · obtain ⟨a, b, d⟩ := mvC_at n D G T j c
      have hl := mvC_len n D G T
      rw [List.getElem?_append_left (by omega), List.getElem?_append_left (by omega), List.getElem?_append_left (by omega)]
      exact ⟨a, b, d⟩
    · obtain rfl : j = n := by omega
      have hl := mvC_len j D G T
      rw [List.getElem?_append_right (by omega), List.getElem?_append_right (by omega), List.getElem?_append_right (by omega), hl, Nat.sub_self, Nat.add_sub_cancel_left, Nat.add_sub_cancel_left]
      exact ⟨rfl, rfl, rfl⟩
theorem infoMove : (Tryd.prog.info? 42).map (fun i => (i.zero, i.size, i.bytes)) = some (some (.agg #[.int .i64 0, .int .i64 0, .int .i64 0]), 3, 24) := by kernel_rfl
theorem app_mv {base n m cp b o : Nat} {D G T : Nat → Int} {w : World} {v : Value} {xs : List Value} (hown : w.ownsRow base 42 3 v n xs) (hc : ∀ j, j < m → w.cell? ⟨b, o + j * 3, none⟩ = some (.int .i64 (D j)) ∧ w.cell? ⟨b, o + j * 3 + 1, none⟩ = some (.int .i64 (G j)) ∧ w.cell? ⟨b, o + j * 3 + 2, none⟩ = some (.int .i64 (T j))) (hm : n + m ≤ 1000) (hbase : base ≤ w.heap.size)
    {ops : Array Oper} {rest : List Oper} {oo : Oper} {a : Act} {Q : Exit → Act → World → Prop} (hgd : oo.guard = none) (sO xO : Operand) (ho : oo.op = .call { callee := .builtin .append, args := #[sO, xO], argTypes := #[25, 25] }) (hv : a.eval sO = v) (hx : a.eval xO = .slice (some ⟨b, o, none⟩) m cp)
    (h : ∀ v' w', w'.ownsRow base 42 3 v' (n + m) (xs ++ mvC m D G T) → w.grownBy w' v.ownBlock → wpList Tryd.prog ops Q rest (a.put oo.dst v') w') : wpList Tryd.prog ops Q (oo :: rest) a w := by
  obtain ⟨i, hi, hz0, hz1, hz2⟩ := info_of infoMove
  have hmb : (n + m) * 24 ≤ 1000 * 24 := Nat.mul_le_mul hm (Nat.le_refl _)
  obtain ⟨v', w', h1, h2, h3, _, h4⟩ := run_append_own_at (P := Tryd.prog) w base 25 oo.type 42 i (.agg #[.int .i64 0, .int .i64 0, .int .i64 0]) 3 24 Tryd.underlying25 hi hz0 hz1 hz2 rfl (by decide) v n xs hown ⟨b, o, none⟩ m cp (mvC m D G T) (by rw [mvC_len])
    (fun j u hu => by
      have hj : j < m * 3 := by
        have := (List.getElem?_eq_some_iff.1 hu).1
        rwa [mvC_len] at this
      obtain ⟨a0, a1, a2⟩ := mvC_at m D G T (j / 3) (by omega)
      obtain ⟨c0, c1, c2⟩ := hc (j / 3) (by omega)
      rw [Go.WideShapes.add_plain]
      have e : j % 3 = 0 ∨ j % 3 = 1 ∨ j % 3 = 2 := by omega
      rcases e with e | e | e
      · rw [show j / 3 * 3 = j by omega] at a0 c0
        rw [c0, ← a0, hu]
      · rw [show j / 3 * 3 + 1 = j by omega] at a1
        rw [show o + j / 3 * 3 + 1 = o + j by omega] at c1
        rw [c1, ← a1, hu]
      · rw [show j / 3 * 3 + 2 = j by omega] at a2
        rw [show o + j / 3 * 3 + 2 = o + j by omega] at c2
        rw [c2, ← a2, hu])
    (fun u hu => by
      unfold mvC at hu
      obtain ⟨j, -, hj⟩ := List.mem_flatMap.1 hu
      simp at hj
      rcases hj with rfl | rfl | rfl <;> rfl) (by unfold maxLen; omega) (by omega) hbase
  exact Lib.wpList_append_run _ hgd sO xO 25 25 ho v _ hv hx v' w' h1 (h v' w' h2 h3)
/-- Moves in a row of the call's own. -/
def RowM (w : World) (g n : Nat) (D G T : Nat → Int) : Prop := g < w.heap.size ∧ ∀ j, j < n → (w.cell? ⟨g, j * 3, none⟩ = some (.int .i64 (D j)) ∧ w.cell? ⟨g, j * 3 + 1, none⟩ = some (.int .i64 (G j)) ∧ w.cell? ⟨g, j * 3 + 2, none⟩ = some (.int .i64 (T j))) ∧ ∀ i, w.frozen? ⟨g, i, none⟩ = false
theorem RowM.mv {w : World} {g n : Nat} {D G T : Nat → Int} (h : RowM w g n D G T) : MvIn w (some ⟨g, 0, none⟩) n D G T := .inr ⟨g, 0, rfl, fun j hj => by rw [Nat.zero_add]; exact (h.2 j hj).1⟩
theorem own_rowM {w : World} {base n : Nat} {v : Value} {D G T : Nat → Int} (h : w.ownsRow base 42 3 v n (mvC n D G T)) (hn : 0 < n) :
    ∃ g c, v = .slice (some ⟨g, 0, none⟩) n c ∧ base ≤ g ∧ n ≤ c ∧ RowM w g n D G T := by
  rcases h.2 with ⟨h1, h2⟩ | ⟨g, c, cur, h1, h2, h3, h4, -⟩
  · exfalso; omega
  · subst h1
    have hg := lt_of_at h3
    refine ⟨g, c, rfl, h2, h4, hg, fun j hj => ?_⟩
    obtain ⟨a, b, d⟩ := mvC_at n D G T j hj
    have hc := fun i u hu => (by have := h.cells (g := g) rfl i u hu; rwa [add_at] at this : w.cell? ⟨g, i, none⟩ = some u)
    exact ⟨⟨hc _ _ a, hc _ _ b, hc _ _ d⟩, fun i => by simp [World.frozen?, h3]⟩
def putM (w : World) (g p : Nat) (d x t : Int) : World := ((w.setCell ⟨g, p * 3, none⟩ (.int .i64 d)).setCell ⟨g, p * 3 + 1, none⟩ (.int .i64 x)).setCell ⟨g, p * 3 + 2, none⟩ (.int .i64 t)
def putA (f : Nat → Int) (p : Nat) (v : Int) : Nat → Int := fun j => if j = p then v else f j
theorem cell_set {w : World} {g i j : Nat} {u v x : Value} (h : w.cell? ⟨g, j, none⟩ = some x) : (w.setCell ⟨g, i, none⟩ v).cell? ⟨g, j, none⟩ = some (if i = j then v else x) := by
  by_cases e : i = j
  · subst e; rw [if_pos rfl]; exact World.cell?_setCell_same w _ _ h
  · rw [if_neg e, World.cell?_setCell_other w _ _ _ (by intro h; injection h; omega)]; exact h
theorem RowM.store {w : World} {g n : Nat} {D G T : Nat → Int} (h : RowM w g n D G T) (p : Nat) (d x t : Int) : RowM (putM w g p d x t) g n (putA D p d) (putA G p x) (putA T p t) := by
  unfold putM
  refine ⟨by simp [World.setCell]; exact h.1, fun j hj => ⟨?_, fun i => by rw [World.frozen?_setCell, World.frozen?_setCell, World.frozen?_setCell]; exact (h.2 j hj).2 i⟩⟩
  obtain ⟨a, b, c⟩ := (h.2 j hj).1
  have a1 := cell_set (u := .int .i64 0) (i := p * 3 + 2) (v := .int .i64 t) (cell_set (u := .int .i64 0) (i := p * 3 + 1) (v := .int .i64 x) (cell_set (u := .int .i64 0) (i := p * 3) (v := .int .i64 d) a))
  have b1 := cell_set (u := .int .i64 0) (i := p * 3 + 2) (v := .int .i64 t) (cell_set (u := .int .i64 0) (i := p * 3 + 1) (v := .int .i64 x) (cell_set (u := .int .i64 0) (i := p * 3) (v := .int .i64 d) b))
  have c1 := cell_set (u := .int .i64 0) (i := p * 3 + 2) (v := .int .i64 t) (cell_set (u := .int .i64 0) (i := p * 3 + 1) (v := .int .i64 x) (cell_set (u := .int .i64 0) (i := p * 3) (v := .int .i64 d) c))
  unfold putA
  by_cases e : j = p
  · subst e
    rw [if_pos rfl, if_pos rfl, if_pos rfl]
    rw [if_neg (by omega), if_neg (by omega), if_pos rfl] at a1
    rw [if_neg (by omega), if_pos rfl] at b1
    rw [if_pos rfl] at c1
    exact ⟨a1, b1, c1⟩
  · rw [if_neg e, if_neg e, if_neg e]
    rw [if_neg (by omega), if_neg (by omega), if_neg (by omega)] at a1 b1 c1
    exact ⟨a1, b1, c1⟩
theorem putM_below {B : Nat} {w0 w : World} {g : Nat} (hb : Below B w0 w) (hg : B ≤ g) (p : Nat) (d x t : Int) : Below B w0 (putM w g p d x t) :=
  ((hb.setCell (p := ⟨g, p * 3, none⟩) hg _).setCell (p := ⟨g, p * 3 + 1, none⟩) hg _).setCell (p := ⟨g, p * 3 + 2, none⟩) hg _
/-- Two neighbours changed about. -/
def swN (f : Nat → Int) (k : Nat) : Nat → Int := putA (putA f k (f (k + 1))) (k + 1) (f k)
/-- The facts that the change wants, store by store. -/
theorem exchM {w : World} {g n k : Nat} {D G T : Nat → Int} (h : RowM w g n D G T) (hk : k + 1 < n) (d x t d' x' t' : Int) :
    (w.setCell ⟨g, k * 3, none⟩ (.int .i64 d')).cell? ⟨g, k * 3 + 1, none⟩ = some (.int .i64 (G k)) ∧
    ((w.setCell ⟨g, k * 3, none⟩ (.int .i64 d')).setCell ⟨g, k * 3 + 1, none⟩ (.int .i64 x')).cell? ⟨g, k * 3 + 2, none⟩ = some (.int .i64 (T k)) ∧
    (putM w g k d' x' t').cell? ⟨g, (k + 1) * 3, none⟩ = some (.int .i64 (D (k + 1))) ∧
    ((putM w g k d' x' t').setCell ⟨g, (k + 1) * 3, none⟩ (.int .i64 d)).cell? ⟨g, (k + 1) * 3 + 1, none⟩ = some (.int .i64 (G (k + 1))) ∧
    (((putM w g k d' x' t').setCell ⟨g, (k + 1) * 3, none⟩ (.int .i64 d)).setCell ⟨g, (k + 1) * 3 + 1, none⟩ (.int .i64 x)).cell? ⟨g, (k + 1) * 3 + 2, none⟩ = some (.int .i64 (T (k + 1))) := by
  obtain ⟨a0, a1, a2⟩ := (h.2 k (by omega)).1
  obtain ⟨b0, b1, b2⟩ := (h.2 (k + 1) hk).1
  have off : ∀ (W : World) (i j : Nat) (v y : Value), i ≠ j → W.cell? ⟨g, j, none⟩ = some y → (W.setCell ⟨g, i, none⟩ v).cell? ⟨g, j, none⟩ = some y := fun W i j v y e hy => by
    rw [World.cell?_setCell_other W _ _ _ (by intro h; injection h; omega)]; exact hy
  unfold putM
  exact ⟨off _ _ _ _ _ (by omega) a1, off _ _ _ _ _ (by omega) (off _ _ _ _ _ (by omega) a2), off _ _ _ _ _ (by omega) (off _ _ _ _ _ (by omega) (off _ _ _ _ _ (by omega) b0)),
    off _ _ _ _ _ (by omega) (off _ _ _ _ _ (by omega) (off _ _ _ _ _ (by omega) (off _ _ _ _ _ (by omega) b1))),
    off _ _ _ _ _ (by omega) (off _ _ _ _ _ (by omega) (off _ _ _ _ _ (by omega) (off _ _ _ _ _ (by omega) (off _ _ _ _ _ (by omega) b2))))⟩

/-! Turned about. -/
theorem check_of {Y0 Ca Ex u : Int} {n : Nat} {D G T : Nat → Int} (h1 : 1900 ≤ Y0 ∧ Y0 ≤ 2199 ∧ 0 ≤ Ca ∧ Ca ≤ 1000000 ∧ 0 ≤ Ex ∧ Ex ≤ 12) (h2 : inB u = true) (h3 : n ≤ 4096) (h4 : ∀ j, j < n → inB (D j) = true ∧ jan Y0 ≤ D j ∧ (Ev.mv (D j) (G j) (T j)).ok) (h5 : ∀ i j, i ≤ j → j < n → D i ≤ D j) : checkV Y0 Ca Ex u n D G T = 0 := by
  unfold checkV
  rw [if_neg (by unfold badPlan; omega), if_neg (by rw [h2]; simp), if_neg (by omega)]
  refine firstE_none (fun j hj => ?_)
  obtain ⟨a, b, c⟩ := h4 j hj
  simp only [Ev.ok] at c
  unfold mvErr
  rw [if_neg (by rw [a]; simp; omega), if_neg (fun ⟨c1, c2⟩ => by have := h5 (j - 1) j (by omega) hj; omega), if_neg (by omega)]
theorem swN_at (f : Nat → Int) (k j : Nat) : swN f k j = if j = k then f (k + 1) else if j = k + 1 then f k else f j := by
  unfold swN putA
  by_cases a : j = k + 1
  · rw [if_pos a, if_neg (by omega), if_pos a]
  · rw [if_neg a]
    by_cases b : j = k
    · rw [if_pos b, if_pos b]
    · rw [if_neg b, if_neg b, if_neg a]
theorem check_sw {Y0 Ca Ex u : Int} {n k : Nat} {D G T : Nat → Int} (hk : k + 1 < n) (hd : D k = D (k + 1)) (h : checkV Y0 Ca Ex u n D G T = 0) : checkV Y0 Ca Ex u n (swN D k) (swN G k) (swN T k) = 0 := by
  obtain ⟨h1, h2, h3, h4, h5⟩ := check_zero h
  have eD : swN D k = D := by
    funext j; rw [swN_at]; split
    · rename_i e; rw [e, hd]
    · split
      · rename_i e; rw [e, hd]
      · rfl
  rw [eD]
  refine check_of h1 h2 h3 (fun j hj => ?_) h5
  obtain ⟨a, b, c⟩ := h4 j hj
  refine ⟨a, b, ?_⟩
  rw [swN_at, swN_at]
  simp only [Ev.ok] at c ⊢
  split
  · have := (h4 (k + 1) hk).2.2; simp only [Ev.ok] at this; omega
  · split
    · have := (h4 k (by omega)).2.2; simp only [Ev.ok] at this; omega
    · exact c
theorem swN_swN (f : Nat → Int) (k : Nat) : swN (swN f k) k = f := by
  funext j
  rw [swN_at, swN_at, swN_at, swN_at]
  by_cases a : j = k
  · subst a; simp
  · by_cases b : j = k + 1
    · subst b; simp
    · simp [a, b]
theorem step_swap {u c : Int} {d g t g' t' : Int} (b : Bal) (g0 : 0 ≤ g) (t0 : 0 ≤ t) (g1 : 0 ≤ g') (t1 : 0 ≤ t') (hca : 0 ≤ b.ca) (h : (g = 0 ∧ g' = 0) ∨ (t = 0 ∧ t' = 0)) : stepE u c (stepE u c b (.mv d g t)) (.mv d g' t') = stepE u c (stepE u c b (.mv d g' t')) (.mv d g t) := by
  unfold stepE
  by_cases hu : d ≤ u
  · rw [if_pos (show (Ev.mv d g t).day ≤ u from hu), if_pos (show (Ev.mv d g' t').day ≤ u from hu), if_pos (show (Ev.mv d g' t').day ≤ u from hu), if_pos (show (Ev.mv d g t).day ≤ u from hu)]
    simp only [Ev.act, Bal.mv]
    apply Bal.ext' <;> simp only <;> omega
  · rw [if_neg (show ¬ (Ev.mv d g t).day ≤ u from hu), if_neg (show ¬ (Ev.mv d g' t').day ≤ u from hu), if_neg (show ¬ (Ev.mv d g t).day ≤ u from hu)]
theorem apply_swap {u c : Int} (hc : 0 ≤ c) {x y : Mv} (hd : x.1 = y.1) (hx : (mvE x).ok) (hy : (mvE y).ok) (h : (x.2.1 = 0 ∧ y.2.1 = 0) ∨ (x.2.2 = 0 ∧ y.2.2 = 0)) (p : Mv → Bool) (hp : p x = p y) (A B : List Mv) (hA : ∀ z ∈ A, (mvE z).ok) (b : Bal) (hb : 0 ≤ b.ca) :
    applyE u c b (((A ++ x :: y :: B).filter p).map mvE) = applyE u c b (((A ++ y :: x :: B).filter p).map mvE) := by
  rw [List.filter_append, List.filter_append, List.map_append, List.map_append, applyE_app, applyE_app]
  have hca := (applyE_mono (u := u) hc ((A.filter p).map mvE) b (fun e he => by
    obtain ⟨z, hz, rfl⟩ := List.mem_map.1 he
    exact hA z (List.mem_filter.1 hz).1) hb).1
  generalize applyE u c b ((A.filter p).map mvE) = b1 at hca
  by_cases hpx : p x = true
  · rw [List.filter_cons_of_pos hpx, List.filter_cons_of_pos (by rw [← hp]; exact hpx), List.filter_cons_of_pos (by rw [← hp]; exact hpx), List.filter_cons_of_pos hpx]
    show applyE u c (stepE u c (stepE u c b1 (mvE x)) (mvE y)) _ = applyE u c (stepE u c (stepE u c b1 (mvE y)) (mvE x)) _
    obtain ⟨d, g, t⟩ := x
    obtain ⟨d', g', t'⟩ := y
    simp only at hd h
    subst hd
    simp only [mvE, Ev.ok] at hx hy
    have hs := step_swap (u := u) (c := c) (d := d) b1 (by omega : 0 ≤ g) (by omega : 0 ≤ t) (by omega : 0 ≤ g') (by omega : 0 ≤ t') hca h
    unfold mvE
    rw [hs]
  · rw [List.filter_cons_of_neg hpx, List.filter_cons_of_neg (by rw [← hp]; exact hpx), List.filter_cons_of_neg (by rw [← hp]; exact hpx), List.filter_cons_of_neg hpx]

end Go.Proofs.YtpejdbnphjheeaaDoor
