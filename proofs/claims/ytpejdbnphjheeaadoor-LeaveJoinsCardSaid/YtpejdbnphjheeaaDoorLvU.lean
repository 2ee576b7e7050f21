/-
  What is proved: plain facts on what moves behind a day, and sums of moves, do to the years' account; and what of a result's account lies in memory. Conditions: as each says.
-/
import Derived.Test.YtpejdbnphjheeaaDoorLvQ
import Derived.Deep.RegionHeld3
namespace Go.Proofs.YtpejdbnphjheeaaDoor
open Go Go.RowKit Go.Proofs Go.Proofs.YtpejdbnphjheeaaDoor.Cv
set_option linter.unusedVariables false

/-! Moves behind a day. -/
def upTo (u : Int) (x : Mv) : Bool := decide (x.1 ≤ u)
def evTo (u : Int) (e : Ev) : Bool := decide (e.day ≤ u)
theorem apply_to (u c : Int) : ∀ (es : List Ev) (b : Bal), applyE u c b es = applyE u c b (es.filter (evTo u))
  | [], b => rfl
  | e :: r, b => by
    show applyE u c (stepE u c b e) r = _
    by_cases h : e.day ≤ u
    · rw [List.filter_cons_of_pos (by simpa [evTo] using h)]
      exact apply_to u c r _
    · rw [List.filter_cons_of_neg (by simpa [evTo] using h)]
      have : stepE u c b e = b := by unfold stepE; rw [if_neg h]
      rw [this]
      exact apply_to u c r b
theorem mv_to (u : Int) (p : Mv → Bool) (l : List Mv) : ((l.filter p).map mvE).filter (evTo u) = ((l.filter (upTo u)).filter p).map mvE := by
  rw [List.filter_map]
  have e : (evTo u ∘ mvE) = upTo u := by funext x; rfl
  rw [e, List.filter_filter, List.filter_filter]
  congr 2
  funext x
  exact Bool.and_comm _ _
theorem yearL_to {Y0 Ex u y : Int} {l l' : List Mv} (h : l.filter (upTo u) = l'.filter (upTo u)) : (yearL Y0 Ex l y).filter (evTo u) = (yearL Y0 Ex l' y).filter (evTo u) := by
  unfold yearL
  rw [List.filter_append, List.filter_append]
  congr 1
  split
  · rw [List.filter_append, List.filter_append, List.filter_cons, List.filter_cons, mv_to, mv_to, mv_to, mv_to, h]
  · rw [mv_to, mv_to, h]
theorem years_to {Y0 Ca Ex u : Int} {l l' : List Mv} (h : l.filter (upTo u) = l'.filter (upTo u)) : ∀ i, yearsE Y0 Ca Ex u l i = yearsE Y0 Ca Ex u l' i
  | 0 => rfl
  | i + 1 => by
    show applyE u Ca (yearsE Y0 Ca Ex u l i) _ = applyE u Ca (yearsE Y0 Ca Ex u l' i) _
    rw [years_to h i, apply_to, yearL_to h, ← apply_to]
theorem mvL_to {u : Int} {n k : Nat} {D G T : Nat → Int} (hk : k ≤ n) (h1 : ∀ j, j < k → D j ≤ u) (h2 : ∀ j, k ≤ j → j < n → u < D j) : (mvL n D G T).filter (upTo u) = (mvL k D G T).filter (upTo u) := by
  unfold mvL
  rw [filter_range _ _ 0 k n (by omega) hk (fun j hj => ?_), filter_range _ _ 0 k k (by omega) (Nat.le_refl _) (fun j hj => ?_)]
  · simp only [upTo, decide_eq_true_eq]
    exact ⟨fun _ => ⟨by omega, hj⟩, fun _ => h1 j hj⟩
  · simp only [upTo, decide_eq_true_eq]
    constructor
    · intro h
      refine ⟨by omega, ?_⟩
      by_cases c : j < k
      · exact c
      · have := h2 j (by omega) hj; omega
    · rintro ⟨-, h⟩; exact h1 j h
theorem check_less {Y0 Ca Ex u : Int} {n k : Nat} {D G T : Nat → Int} (hk : k ≤ n) (h : checkV Y0 Ca Ex u n D G T = 0) : checkV Y0 Ca Ex u k D G T = 0 := by
  obtain ⟨h1, h2, h3, -, -⟩ := check_zero h
  have hb : ¬ badPlan Y0 Ca Ex := by unfold badPlan; omega
  have hz : firstE (mvErr Y0 D G T) n = 0 := by
    unfold checkV at h
    rw [if_neg hb, if_neg (by rw [h2]; simp), if_neg (by omega)] at h
    exact h
  unfold checkV
  rw [if_neg hb, if_neg (by rw [h2]; simp), if_neg (by omega)]
  exact firstE_none (fun j hj => firstE_zero hz j (by omega))

/-! Sums. -/
def sumM (p : Mv → Bool) (π : Mv → Int) : List Mv → Int
  | [] => 0
  | x :: r => (if p x = true then π x else 0) + sumM p π r
theorem sumM_app (p : Mv → Bool) (π : Mv → Int) : ∀ (a b : List Mv), sumM p π (a ++ b) = sumM p π a + sumM p π b
  | [], b => by simp [sumM]
  | x :: r, b => by show _ + sumM p π (r ++ b) = _; rw [sumM_app p π r b]; simp only [sumM]; omega
theorem sumM_congr {p q : Mv → Bool} {π : Mv → Int} : ∀ {l : List Mv}, (∀ x ∈ l, p x = q x) → sumM p π l = sumM q π l
  | [], _ => rfl
  | x :: r, h => by simp only [sumM]; rw [h x (by simp), sumM_congr (l := r) (fun y hy => h y (by simp [hy]))]
theorem sumM_or {p q s : Mv → Bool} {π : Mv → Int} : ∀ {l : List Mv}, (∀ x ∈ l, (p x = true ∧ q x = false ∧ s x = true) ∨ (p x = false ∧ q x = true ∧ s x = true) ∨ (p x = false ∧ q x = false ∧ s x = false)) → sumM p π l + sumM q π l = sumM s π l
  | [], _ => rfl
  | x :: r, h => by
    have ih := sumM_or (π := π) (l := r) (fun y hy => h y (by simp [hy]))
    simp only [sumM]
    rcases h x (by simp) with ⟨a, b, c⟩ | ⟨a, b, c⟩ | ⟨a, b, c⟩ <;> rw [a, b, c] <;> simp <;> omega
def evS (u : Int) (π : Ev → Int) : List Ev → Int
  | [] => 0
  | e :: r => (if e.day ≤ u then π e else 0) + evS u π r
theorem evS_app (u : Int) (π : Ev → Int) : ∀ (a b : List Ev), evS u π (a ++ b) = evS u π a + evS u π b
  | [], b => by simp [evS]
  | x :: r, b => by show _ + evS u π (r ++ b) = _; rw [evS_app u π r b]; simp only [evS]; omega
theorem evS_mv (u : Int) (π : Ev → Int) (p : Mv → Bool) : ∀ (l : List Mv), evS u π ((l.filter p).map mvE) = sumM (fun x => p x && upTo u x) (fun x => π (mvE x)) l
  | [] => rfl
  | x :: r => by
    have ih := evS_mv u π p r
    simp only [sumM]
    by_cases h : p x = true
    · rw [List.filter_cons_of_pos h, List.map_cons]
      simp only [evS]
      rw [ih, h]
      congr 1
      have e : (mvE x).day = x.1 := rfl
      rw [e]
      by_cases hu : x.1 ≤ u <;> simp [upTo, hu]
    · rw [List.filter_cons_of_neg h, ih]
      have h' : p x = false := by simpa using h
      simp [h']
theorem apply_sum {u c : Int} {f : Bal → Int} {π : Ev → Int} (h : ∀ b e, f (stepE u c b e) = f b + (if e.day ≤ u then π e else 0)) : ∀ (es : List Ev) (b : Bal), f (applyE u c b es) = f b + evS u π es
  | [], b => by simp [applyE, evS]
  | e :: r, b => by
    show f (applyE u c (stepE u c b e) r) = _
    rw [apply_sum h r, h]
    simp only [evS]; omega
theorem year_sum {Y0 Ex u y : Int} {l : List Mv} {π : Ev → Int} (h1 : ∀ d, π (.turn d) = 0) (h2 : ∀ d, π (.exp d) = 0) (x0 : 0 ≤ Ex) : evS u π (yearL Y0 Ex l y) = sumM (fun x => inY (jan y) (jan (y + 1)) x && upTo u x) (fun x => π (mvE x)) l := by
  have ht : evS u π (if Y0 < y then [.turn (mstart y 1)] else []) = 0 := by split <;> simp [evS, h1]
  unfold yearL
  rw [evS_app, ht]
  by_cases hx : Ex < 12
  · rw [if_pos hx, evS_app]
    simp only [evS]
    rw [evS_mv, evS_mv, h2]
    have a := mstart_up (y := y) x0
    have b := mstart_dn (y := y) x0 hx
    rw [mstart_jan] at a ⊢
    have := sumM_or (p := fun x => inY (jan y) (mstart y (1 + Ex)) x && upTo u x) (q := fun x => inY (mstart y (1 + Ex)) (jan (y + 1)) x && upTo u x) (s := fun x => inY (jan y) (jan (y + 1)) x && upTo u x) (π := fun x => π (mvE x)) (l := l) (fun x _ => by
      simp only [inY, upTo, Bool.and_eq_true, Bool.and_eq_false_iff, decide_eq_true_eq, decide_eq_false_iff_not]
      omega)
    rw [← this]
    simp
  · rw [if_neg hx, evS_mv, mstart_jan]
    simp
theorem years_sum {Y0 Ca Ex u : Int} {l : List Mv} {f : Bal → Int} {π : Ev → Int} (h : ∀ b e, f (stepE u Ca b e) = f b + (if e.day ≤ u then π e else 0)) (h0 : f ⟨0, 0, 0, 0, 0⟩ = 0) (h1 : ∀ d, π (.turn d) = 0) (h2 : ∀ d, π (.exp d) = 0) (x0 : 0 ≤ Ex) : ∀ i : Nat, f (yearsE Y0 Ca Ex u l i) = sumM (fun x => inY (jan Y0) (jan (Y0 + (i : Int))) x && upTo u x) (fun x => π (mvE x)) l
  | 0 => by
    show f ⟨0, 0, 0, 0, 0⟩ = _
    rw [h0, sumM_congr (q := fun _ => false)]
    · clear h h0 h1 h2
      induction l with
      | nil => rfl
      | cons x r ih => simp [sumM] at ih ⊢; exact ih
    · intro x _
      simp only [inY, upTo, Bool.and_eq_false_iff, decide_eq_false_iff_not]
      rw [show Y0 + ((0 : Nat) : Int) = Y0 by omega]
      omega
  | i + 1 => by
    have ih := years_sum h h0 h1 h2 x0 i (Y0 := Y0) (l := l)
    show f (applyE u Ca (yearsE Y0 Ca Ex u l i) _) = _
    rw [apply_sum h, ih, year_sum h1 h2 x0]
    have a := jan_mono Y0 (Y0 + (i : Int)) (by omega)
    have b := jan_mono (Y0 + (i : Int)) (Y0 + (i : Int) + 1) (by omega)
    rw [show Y0 + ((i + 1 : Nat) : Int) = Y0 + (i : Int) + 1 by omega]
    refine sumM_or (fun x _ => ?_)
    simp only [inY, upTo, Bool.and_eq_true, Bool.and_eq_false_iff, decide_eq_true_eq, decide_eq_false_iff_not]
    omega
def sumTo (g : Nat → Int) : Nat → Int
  | 0 => 0
  | k + 1 => sumTo g k + g k
theorem sumM_to {u : Int} {k : Nat} {D G T : Nat → Int} {π : Mv → Int} {g : Nat → Int} (hg : ∀ j, π (D j, G j, T j) = g j) : ∀ n : Nat, k ≤ n → (∀ j, j < k → D j ≤ u) → (∀ j, k ≤ j → j < n → u < D j) → sumM (upTo u) π (mvL n D G T) = sumTo g k
  | 0, hk, _, _ => by rw [show k = 0 by omega]; rfl
  | n + 1, hk, h1, h2 => by
    have e : mvL (n + 1) D G T = mvL n D G T ++ [(D n, G n, T n)] := by unfold mvL; rw [List.range_succ, List.map_append]; rfl
    rw [e, sumM_app]
    simp only [sumM]
    by_cases c : k = n + 1
    · subst c
      have a : ∀ m, m ≤ n + 1 → sumM (upTo u) π (mvL m D G T) = sumTo g m := by
        intro m
        induction m with
        | zero => intro _; rfl
        | succ m ih =>
          intro hm
          have e : mvL (m + 1) D G T = mvL m D G T ++ [(D m, G m, T m)] := by unfold mvL; rw [List.range_succ, List.map_append]; rfl
          rw [e, sumM_app, ih (by omega)]
          simp only [sumM]
          have := h1 m (by omega)
          rw [if_pos (by simpa [upTo] using this), hg]
          simp only [sumTo]; omega
      rw [a n (by omega)]
      have := h1 n (by omega)
      rw [if_pos (by simpa [upTo] using this), hg]
      simp only [sumTo]; omega
    · rw [sumM_to hg n (by omega) h1 (fun j a b => h2 j a (by omega))]
      have := h2 n (by omega) (by omega)
      rw [if_neg (by simp [upTo]; omega)]
      omega
theorem years_sum_to {Y0 Ca Ex u Y : Int} {n k : Nat} {D G T : Nat → Int} {f : Bal → Int} {π : Ev → Int} {g : Nat → Int} (hv : checkV Y0 Ca Ex u n D G T = 0) (hY : yearIn u Y) (h : ∀ b e, f (stepE u Ca b e) = f b + (if e.day ≤ u then π e else 0)) (h0 : f ⟨0, 0, 0, 0, 0⟩ = 0) (h1 : ∀ d, π (.turn d) = 0) (h2 : ∀ d, π (.exp d) = 0) (hg : ∀ j, π (.mv (D j) (G j) (T j)) = g j)
    (hk : k ≤ n) (k1 : ∀ j, j < k → D j ≤ u) (k2 : ∀ j, k ≤ j → j < n → u < D j) : f (yearsE Y0 Ca Ex u (mvL n D G T) (Y + 1 - Y0).toNat) = sumTo g k := by
  obtain ⟨⟨y0, y9, c0, c9, x0, x9⟩, -, -, hd, -⟩ := check_zero hv
  obtain ⟨u1, u2, u3, u4⟩ := hY
  rw [years_sum h h0 h1 h2 x0]
  rw [sumM_congr (q := upTo u) (fun x hx => ?_)]
  · exact sumM_to (π := fun x => π (mvE x)) hg n hk k1 k2
  · obtain ⟨j, hj, rfl⟩ := mvL_mem hx
    have hjd := (hd j hj).2.1
    have hjn : jan (Y + 1) ≤ jan (Y0 + ((Y + 1 - Y0).toNat : Int)) := by
      have := jan_mono (Y + 1) (Y0 + ((Y + 1 - Y0).toNat : Int)) (by omega)
      omega
    rw [Bool.eq_iff_iff]
    simp only [inY, upTo, Bool.and_eq_true, decide_eq_true_eq]
    omega

/-! A result's account in memory. -/
def AccAt (w : World) (g : Nat) (x0 x1 x2 x3 : Int) : Prop := w.heap[g]? = some (.cells #[.int .i64 x0, .int .i64 x1, .int .i64 x2, .int .i64 x3] 28 (0, 0))
theorem AccAt.below {w w' : World} {g : Nat} {x0 x1 x2 x3 : Int} (h : AccAt w g x0 x1 x2 x3) (hb : Below w.heap.size w w') : AccAt w' g x0 x1 x2 x3 := (hb.block g (lt_of_at h)).trans h
theorem AccAt.cells {w : World} {g : Nat} {x0 x1 x2 x3 : Int} (h : AccAt w g x0 x1 x2 x3) : w.cell? ⟨g, 0, none⟩ = some (.int .i64 x0) ∧ w.cell? ⟨g, 1, none⟩ = some (.int .i64 x1) ∧ w.cell? ⟨g, 2, none⟩ = some (.int .i64 x2) ∧ w.cell? ⟨g, 3, none⟩ = some (.int .i64 x3) :=
  ⟨cell_of h 0 rfl, cell_of h 1 rfl, cell_of h 2 rfl, cell_of h 3 rfl⟩
theorem AccAt.frozen {w : World} {g : Nat} {x0 x1 x2 x3 : Int} (h : AccAt w g x0 x1 x2 x3) (i : Nat) : w.frozen? ⟨g, i, none⟩ = false := by
  have h' : w.heap[g]? = _ := h
  simp [World.frozen?, h']
theorem AccAt.put {w : World} {g : Nat} {x0 x1 x2 x3 y0 y1 y2 y3 : Int} (h : AccAt w g x0 x1 x2 x3) : AccAt ((((w.setCell ⟨g, 0, none⟩ (.int .i64 y0)).setCell ⟨g, 1, none⟩ (.int .i64 y1)).setCell ⟨g, 2, none⟩ (.int .i64 y2)).setCell ⟨g, 3, none⟩ (.int .i64 y3)) g y0 y1 y2 y3 := by
  have h' : w.heap[g]? = _ := h
  exact heap_set _ g 3 (.int .i64 y3) _ _ (heap_set _ g 2 (.int .i64 y2) _ _ (heap_set _ g 1 (.int .i64 y1) _ _ (heap_set _ g 0 (.int .i64 y0) _ _ h')))
theorem AccAt.new (w : World) (x0 x1 x2 x3 : Int) : AccAt (w.alloc (.cells #[.int .i64 x0, .int .i64 x1, .int .i64 x2, .int .i64 x3] 28)) w.heap.size x0 x1 x2 x3 := heap_new _ _
theorem AccAt.all {w : World} {g : Nat} {x0 x1 x2 x3 : Int} (h : AccAt w g x0 x1 x2 x3) : (w.cell? ⟨g, 0, none⟩ = some (.int .i64 x0) ∧ w.cell? ⟨g, 1, none⟩ = some (.int .i64 x1) ∧ w.cell? ⟨g, 2, none⟩ = some (.int .i64 x2) ∧ w.cell? ⟨g, 3, none⟩ = some (.int .i64 x3)) ∧ (w.frozen? ⟨g, 0, none⟩ = false ∧ w.frozen? ⟨g, 1, none⟩ = false ∧ w.frozen? ⟨g, 2, none⟩ = false ∧ w.frozen? ⟨g, 3, none⟩ = false) :=
  ⟨h.cells, h.frozen 0, h.frozen 1, h.frozen 2, h.frozen 3⟩
theorem acc_drew (w : World) : AccAt (w.drew.alloc (.cells #[.int .i64 0, .int .i64 0, .int .i64 0, .int .i64 0] 28)) w.heap.size 0 0 0 0 := AccAt.new w.drew 0 0 0 0
theorem acc_new0 (w : World) : AccAt (w.alloc (.cells #[.int .i64 0, .int .i64 0, .int .i64 0, .int .i64 0] 28)) w.heap.size 0 0 0 0 := AccAt.new w 0 0 0 0
theorem set_off {w : World} {g i j : Nat} {v : Value} (h : i ≠ j) : (w.setCell ⟨g, i, none⟩ v).cell? ⟨g, j, none⟩ = w.cell? ⟨g, j, none⟩ := World.cell?_setCell_other w _ _ _ (by intro e; injection e; omega)
theorem set4_below {B : Nat} {w0 w : World} {g : Nat} (hb : Below B w0 w) (hg : B ≤ g) (v0 v1 v2 v3 : Value) : Below B w0 ((((w.setCell ⟨g, 0, none⟩ v0).setCell ⟨g, 1, none⟩ v1).setCell ⟨g, 2, none⟩ v2).setCell ⟨g, 3, none⟩ v3) :=
  (((hb.setCell (p := ⟨g, 0, none⟩) hg v0).setCell (p := ⟨g, 1, none⟩) hg v1).setCell (p := ⟨g, 2, none⟩) hg v2).setCell (p := ⟨g, 3, none⟩) hg v3
theorem kb_drew {W0 : World} : Below W0.heap.size W0 W0.drew := (Below.refl _ _).drew
theorem kb_call {C : Prop} {W0 w w' : World} (hb : Below w.heap.size w w') (h : C ∧ Below W0.heap.size W0 w) : Below W0.heap.size W0 w' := h.2.trans (hb.mono h.2.size)
/-- Fold of what is right. -/
theorem fold_is {Y0 Ca Ex u Y : Int} {p : Option Addr} {n cp : Nat} {D G T : Nat → Int} (hv : checkV Y0 Ca Ex u n D G T = 0) (hY : yearIn u Y) (w : World) (hn : n ≤ 900) (hcp : n ≤ cp) (hM : MvIn w p n D G T) (hL : Len w) :
    Calls Tryd.prog 10 #[.agg #[.int .i64 Y0, .int .i64 Ca, .int .i64 Ex], .int .i64 u, .slice p n cp] w fun e w' => e = .returned (.tuple #[accV (yearsE Y0 Ca Ex u (mvL n D G T) (Y + 1 - Y0).toNat), .int .i64 0]) ∧ Below w.heap.size w w' := by
  refine (fold_any Y0 Ca Ex u p n cp D G T w hn hcp hM hL).mono ?_
  rintro e w' ⟨hb, ⟨h, -⟩ | ⟨-, Z, hZ, rfl⟩⟩
  · exact absurd hv h
  · rw [year_one hZ hY]; exact ⟨rfl, hb⟩

end Go.Proofs.YtpejdbnphjheeaaDoor
