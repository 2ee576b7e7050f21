/-
  What is proved: what is kept of the list of a year's acts as it is built, and the contract of leave's Plan.acts: the acts of a year, in memory, as they are sorted. Conditions: as each says.
-/
import Derived.Test.YtpejdbnphjheeaaDoorLvD
import Derived.Test.YtpejdbnphjheeaaDoorSsStable
import Derived.Lib.AppendZeros
import Derived.Deep.AppendSrc
import Derived.LoopN
import Derived.Deep.DeepCutAuto
namespace Go.Proofs.YtpejdbnphjheeaaDoor
open Go Go.RowKit Go.Proofs Go.Proofs.YtpejdbnphjheeaaDoor.Cv
set_option linter.unusedVariables false

/-! Rows that are owned, and appends. -/
theorem lt_of_at {w : World} {g : Nat} {o : Obj} (h : w.heap[g]? = some o) : g < w.heap.size := (Array.getElem?_eq_some_iff.1 h).1
theorem heap_new (w : World) (o : Obj) : (w.alloc o).heap[w.heap.size]? = some o := by
  show (w.heap.push o)[w.heap.size]? = some o
  simp
theorem info_of {P : Program} {E : TypeId} {z : Value} {s b : Nat} (h : (P.info? E).map (fun i => (i.zero, i.size, i.bytes)) = some (some z, s, b)) : ∃ i, P.info? E = some i ∧ i.zero = some z ∧ i.size = s ∧ i.bytes = b := by
  cases hi : P.info? E with
  | none => rw [hi] at h; simp at h
  | some i => rw [hi] at h; simp at h; exact ⟨i, rfl, h⟩
theorem add_at (g j : Nat) : (Addr.mk g 0 none).add j = ⟨g, j, none⟩ := by unfold Addr.add; split <;> simp_all
theorem own_below {w w' : World} {base s : Nat} {e : TypeId} {v : Value} {n : Nat} {xs : List Value} (h : w.ownsRow base e s v n xs) (hb : Below w.heap.size w w') : w'.ownsRow base e s v n xs := by
  refine ⟨h.1, ?_⟩
  rcases h.2 with h2 | ⟨g, cap, cur, e1, e2, e3, e4⟩
  · exact .inl h2
  · exact .inr ⟨g, cap, cur, e1, e2, (hb.block g (lt_of_at e3)).trans e3, e4⟩
theorem own_slice {w : World} {base : Nat} {E : TypeId} {s n : Nat} {v : Value} {xs : List Value} (h : w.ownsRow base E s v n xs) : ∃ p c, v = .slice p n c := by
  rcases h.2 with ⟨h1, h2⟩ | ⟨g', c', cur, h1, _⟩
  · subst h2; exact ⟨none, 0, h1⟩
  · exact ⟨_, _, h1⟩
theorem app_new {T E : TypeId} {z : Value} {s b : Nat} (hT : Tryd.prog.underlying T = some (.slice E)) (hI : (Tryd.prog.info? E).map (fun i => (i.zero, i.size, i.bytes)) = some (some z, s, b)) (hz : z.cells.size = s) (hs : 0 < s) (hb : b ≤ 64) (base : Nat) (ty : TypeId) (w : World) (v : Value) (n : Nat) (xs : List Value) (hown : w.ownsRow base E s v n xs)
    (m : Nat) (news : List Value) (hl : news.length = m * s) (h1 : ∀ u ∈ news, u.oneCell' = true) (hn : n + m ≤ 1000000) (hbase : base ≤ w.heap.size) :
    ∃ v' w', (Builtin.append_ #[T, T] ty #[v, .slice (some ⟨w.heap.size, 0, none⟩) m m]).run Tryd.prog (w.alloc (.cells news.toArray E)) = .ok v' w' ∧ w'.ownsRow base E s v' (n + m) (xs ++ news) ∧ (w.alloc (.cells news.toArray E)).grownBy w' v.ownBlock ∧ (v'.ownBlock = v.ownBlock ∨ v'.ownBlock = some (w.heap.size + 1)) := by
  obtain ⟨i, hi, hz0, hz1, hz2⟩ := info_of hI
  have hm : (n + m) * b ≤ 1000000 * 64 := Nat.mul_le_mul hn hb
  obtain ⟨v', w', h1, h2, h3, _, h4⟩ := run_append_own_at (P := Tryd.prog) (w.alloc (.cells news.toArray E)) base T ty E i z s b hT hi hz0 hz1 hz2 hz hs v n xs (hown.alloc _) ⟨w.heap.size, 0, none⟩ m m news hl
    (fun j u hu => by rw [add_at, World.cell?_alloc_new]; simpa using hu)
    h1 (by unfold maxLen; omega) (by omega) (by simp; omega)
  exact ⟨v', w', h1, h2, h3, by simpa using h4⟩
theorem app_arm {T E : TypeId} {z : Value} {s b : Nat} (hT : Tryd.prog.underlying T = some (.slice E)) (hI : (Tryd.prog.info? E).map (fun i => (i.zero, i.size, i.bytes)) = some (some z, s, b)) (hz : z.cells.size = s) (hs : 0 < s) (hb : b ≤ 64) (base : Nat) (w : World) (v : Value) (n : Nat) (xs : List Value) (hown : w.ownsRow base E s v n xs)
    (m : Nat) (news : List Value) (hl : news.length = m * s) (h1 : ∀ u ∈ news, u.oneCell' = true) (hn : n + m ≤ 1000000) (hbase : base ≤ w.heap.size)
    {ops : Array Oper} {rest : List Oper} {o : Oper} {a : Act} {Q : Exit → Act → World → Prop} (hgd : o.guard = none) (sO xO : Operand) (ho : o.op = .call { callee := .builtin .append, args := #[sO, xO], argTypes := #[T, T] }) (hv : a.eval sO = v) (hx : a.eval xO = .slice (some ⟨w.heap.size, 0, none⟩) m m)
    (h : ∀ v' w', w'.ownsRow base E s v' (n + m) (xs ++ news) → (w.alloc (.cells news.toArray E)).grownBy w' v.ownBlock → wpList Tryd.prog ops Q rest (a.put o.dst v') w') : wpList Tryd.prog ops Q (o :: rest) a (w.alloc (.cells news.toArray E)) := by
  obtain ⟨v', w', hr, h2, h3, -⟩ := app_new hT hI hz hs hb base o.type w v n xs hown m news hl h1 hn hbase
  exact Lib.wpList_append_run _ hgd sO xO T T ho v _ hv hx v' w' hr (h v' w' h2 h3)

/-! Acts. -/
/-- What happens on a day. -/
inductive Ev where
  | turn (d : Int)
  | exp (d : Int)
  | mv (d g t : Int)
def Ev.day : Ev → Int | .turn d => d | .exp d => d | .mv d _ _ => d
def Ev.act (c : Int) : Ev → Bal → Bal | .turn _, b => b.turn c | .exp _, b => b.exp | .mv _ g t, b => b.mv g t
def Ev.ok : Ev → Prop | .turn d => d ≤ 84006 | .exp d => d ≤ 84006 | .mv d g t => d ≤ 84006 ∧ 0 ≤ g ∧ g ≤ 1000000 ∧ 0 ≤ t ∧ t ≤ 1000000
/-- An act as it lies: its day, its function, and what that has caught. -/
abbrev Sl := Int × Nat × Array Value
def acC (L : List Sl) : List Value := L.flatMap (fun s => [.int .i64 s.1, .func (.func s.2.1) #[] s.2.2])
theorem acC_len : ∀ L, (acC L).length = L.length * 2
  | [] => rfl
  | s :: r => by show (acC r).length + 2 = _; rw [acC_len r]; simp; omega
theorem acC_app (K L : List Sl) : acC (K ++ L) = acC K ++ acC L := by simp [acC]
def Sl.get (L : List Sl) (j : Nat) : Sl := L.getD j (0, 0, #[])
theorem acC_at : ∀ (L : List Sl) (j : Nat), j < L.length → (acC L)[j * 2]? = some (.int .i64 (Sl.get L j).1) ∧ (acC L)[j * 2 + 1]? = some (.func (.func (Sl.get L j).2.1) #[] (Sl.get L j).2.2)
  | s :: r, 0, _ => ⟨rfl, rfl⟩
  | s :: r, j + 1, h => by
    obtain ⟨a, b⟩ := acC_at r j (by simpa using h)
    rw [show (j + 1) * 2 = j * 2 + 2 by omega]
    exact ⟨a, b⟩
def els (L : List Sl) : Ss.Els := ⟨fun j => (Sl.get L j).1, fun j => (Sl.get L j).2.1, fun j => (Sl.get L j).2.2⟩
/-- Worlds keep the blocks that are no rows of acts. -/
def KeepT (w w' : World) : Prop := ∀ (k : Nat) (cs : Array Value) (T : TypeId), T ≠ 58 → T ≠ 50 → w.heap[k]? = some (.cells cs T (0, 0)) → w'.heap[k]? = some (.cells cs T (0, 0))
theorem KeepT.refl (w : World) : KeepT w w := fun _ _ _ _ _ h => h
theorem KeepT.trans {a b c : World} (h : KeepT a b) (k : KeepT b c) : KeepT a c := fun i cs T hT hB hi => k i cs T hT hB (h i cs T hT hB hi)
theorem KeepT.below {w w' : World} (h : Below w.heap.size w w') : KeepT w w' := fun k cs T _ _ hk => (h.block k (lt_of_at hk)).trans hk
theorem KeepT.alloc (w : World) (o : Obj) : KeepT w (w.alloc o) := KeepT.below ((Below.refl _ _).alloc (Nat.le_refl _) o)
theorem KeepT.grown {w w' : World} {base s n : Nat} {v : Value} {xs : List Value} (ho : w.ownsRow base 58 s v n xs) (hg : w.grownBy w' v.ownBlock) : KeepT w w' := fun k cs T hT hB hk => by
  refine (hg.block k (lt_of_at hk) (fun e => ?_)).trans hk
  rcases ho.2 with ⟨h1, h2⟩ | ⟨g, cap, cur, e1, e2, e3, e4⟩
  · subst h1; cases e
  · subst e1
    have e : some k = some g := e
    injection e with e
    subst e
    rw [hk] at e3
    injection e3 with e3
    injection e3 with _ e3
    exact hT e3
theorem KeepT.but {w w' : World} {g : Nat} {cur : Array Value} {q : Nat × Nat} (ho : w.heap[g]? = some (.cells cur 58 q)) (hb : Ss.But g w w') : KeepT w w' := fun k cs T hT hB hk => by
  refine (hb.block k (lt_of_at hk) (fun e => ?_)).trans hk
  subst e
  rw [hk] at ho
  injection ho with ho
  injection ho with _ ho
  exact hT ho
theorem KeepT.butB {w w' : World} {g : Nat} {cur : Array Value} {q : Nat × Nat} (ho : w.heap[g]? = some (.cells cur 50 q)) (hb : Ss.But g w w') : KeepT w w' := fun k cs T hT hB hk => by
  refine (hb.block k (lt_of_at hk) (fun e => ?_)).trans hk
  subst e
  rw [hk] at ho
  injection ho with ho
  injection ho with _ ho
  exact hB ho
/-- An act that lies in memory is this one. -/
def EvIn (w : World) (c : Int) (s : Sl) (e : Ev) : Prop := s.1 = e.day ∧ e.ok ∧ match e with
  | .turn _ => s.2.1 = 36 ∧ ∃ g y x, s.2.2 = #[.pointer (some ⟨g, 0, none⟩)] ∧ w.heap[g]? = some (.cells #[.int .i64 y, .int .i64 c, .int .i64 x] 23 (0, 0))
  | .exp _ => s.2.1 = 38 ∧ s.2.2 = #[]
  | .mv d g t => s.2.1 = 39 ∧ ∃ b, s.2.2 = #[.pointer (some ⟨b, 0, none⟩)] ∧ w.heap[b]? = some (.cells #[.int .i64 d, .int .i64 g, .int .i64 t] 42 (0, 0))
theorem EvIn.keep {w w' : World} {c : Int} {s : Sl} {e : Ev} (h : EvIn w c s e) (k : KeepT w w') : EvIn w' c s e := by
  refine ⟨h.1, h.2.1, ?_⟩
  have h3 := h.2.2
  cases e with
  | turn d => obtain ⟨h1, g, y, x, h2, h4⟩ := h3; exact ⟨h1, g, y, x, h2, k _ _ _ (by decide) (by decide) h4⟩
  | exp d => exact h3
  | mv d g t => obtain ⟨h1, b, h2, h4⟩ := h3; exact ⟨h1, b, h2, k _ _ _ (by decide) (by decide) h4⟩
theorem getD_l {α : Type} (a b : List α) (d : α) {j : Nat} (h : j < a.length) : (a ++ b).getD j d = a.getD j d := by
  rw [List.getD_eq_getElem?_getD, List.getD_eq_getElem?_getD, List.getElem?_append_left h]
theorem getD_r {α : Type} (a : List α) (x d : α) : (a ++ [x]).getD a.length d = x := by
  rw [List.getD_eq_getElem?_getD, List.getElem?_append_right (Nat.le_refl _)]; simp
def EvsIn (w : World) (c : Int) (L : List Sl) (es : List Ev) : Prop := L.length = es.length ∧ ∀ j, j < L.length → EvIn w c (Sl.get L j) (es.getD j (.exp 0))
theorem EvsIn.keep {w w' : World} {c : Int} {L : List Sl} {es : List Ev} (h : EvsIn w c L es) (k : KeepT w w') : EvsIn w' c L es := ⟨h.1, fun j hj => (h.2 j hj).keep k⟩
theorem EvsIn.add {w : World} {c : Int} {L : List Sl} {es : List Ev} {s : Sl} {e : Ev} (h : EvsIn w c L es) (k : EvIn w c s e) : EvsIn w c (L ++ [s]) (es ++ [e]) := by
  refine ⟨by rw [List.length_append, List.length_append, h.1]; rfl, fun j hj => ?_⟩
  rw [List.length_append] at hj
  have hj' : j < L.length + 1 := hj
  unfold Sl.get
  by_cases c : j < L.length
  · rw [getD_l _ _ _ c, getD_l _ _ _ (by rw [← h.1]; exact c)]
    exact h.2 j c
  · have e1 : j = L.length := by omega
    subst e1
    rw [getD_r, h.1, getD_r]
    exact k
theorem cell_of {w : World} {g : Nat} {cs : Array Value} {T : TypeId} (h : w.heap[g]? = some (.cells cs T (0, 0))) (i : Nat) {v : Value} (hv : cs[i]? = some v) : w.cell? ⟨g, i, none⟩ = some v := by
  simp only [World.cell?, h]
  simpa using hv
/-- What an act's function makes of a balance. -/
theorem ev_do {w : World} {c : Int} {s : Sl} {e : Ev} (h : EvIn w c s e) (c1 : 0 ≤ c) (c2 : c ≤ 1000000) {N : Int} {b : Bal} (hI : Inv N b) (hN : N ≤ 1000000000000) :
    Calls Tryd.prog s.2.1 (#[b.v] ++ s.2.2) w fun e' w' => e' = .returned (e.act c b).v ∧ Below w.heap.size w w' := by
  obtain ⟨-, hok, h3⟩ := h
  cases e with
  | turn d =>
    obtain ⟨h1, g, y, x, h2, h4⟩ := h3
    rw [h1, h2]
    exact turnF_any hI hN c c1 c2 g w (cell_of h4 1 rfl)
  | exp d =>
    obtain ⟨h1, h2⟩ := h3
    rw [h1, h2]
    refine (exp_any hI hN w).mono ?_
    rintro e w' ⟨rfl, os, rfl⟩
    exact ⟨rfl, ⟨rfl, rfl, rfl, by rw [Go.Sort.size_grow]; exact Nat.le_add_right _ _, fun i hi => Go.Sort.heap_grow_old _ _ hi⟩⟩
  | mv d g t =>
    obtain ⟨h1, bb, h2, h4⟩ := h3
    rw [h1, h2]
    exact mvF_any hI hN d g t hok.2.1 hok.2.2.1 hok.2.2.2.1 hok.2.2.2.2 bb w (cell_of h4 0 rfl) (cell_of h4 1 rfl) (cell_of h4 2 rfl)
theorem infoAct : (Tryd.prog.info? 58).map (fun i => (i.zero, i.size, i.bytes)) = some (some (.agg #[.int .i64 0, .nilFunc]), 2, 16) := by kernel_rfl

/-- The list as it is built. -/
def Built (W1 : World) (c : Int) (es : List Ev) (lv : Value) (wr : World) : Prop :=
  (es = [] → lv = .slice none 0 0) ∧ Below W1.heap.size W1 wr ∧ ∃ L, EvsIn wr c L es ∧ wr.ownsRow W1.heap.size 58 2 lv es.length (acC L)
theorem Built.nil {W1 w : World} {c : Int} (h : Below W1.heap.size W1 w) : Built W1 c [] (.slice none 0 0) w :=
  ⟨fun _ => rfl, h, [], ⟨rfl, fun j hj => by simp at hj⟩, World.ownsRow_nil _ _ _ _⟩
theorem Built.keep {W1 w w' : World} {c : Int} {es : List Ev} {lv : Value} (h : Built W1 c es lv w) (hb : Below w.heap.size w w') : Built W1 c es lv w' := by
  obtain ⟨h1, h2, L, h3, h4⟩ := h
  exact ⟨h1, h2.trans (hb.mono h2.size), L, h3.keep (KeepT.below hb), own_below h4 hb⟩
theorem Built.slice {W1 w : World} {c : Int} {es : List Ev} {lv : Value} (h : Built W1 c es lv w) : ∃ p cp, lv = .slice p es.length cp := by
  obtain ⟨h1, h2, L, h3, h4⟩ := h
  exact own_slice h4
/-- An act more: the append's arm. -/
theorem Built.arm {W1 w : World} {c : Int} {es : List Ev} {lv : Value} (h : Built W1 c es lv w) (d : Int) (f : Nat) (B : Array Value) (e : Ev) (k : EvIn w c (d, f, B) e) (hn : es.length ≤ 100000) (hs : Nat) (hhs : w.heap.size = hs)
    {ops : Array Oper} {rest : List Oper} {o : Oper} {a : Act} {Q : Exit → Act → World → Prop} (hgd : o.guard = none) (sO xO : Operand) (ho : o.op = .call { callee := .builtin .append, args := #[sO, xO], argTypes := #[54, 54] }) (hv : a.eval sO = lv) (hx : a.eval xO = .slice (some ⟨hs, 0, none⟩) 1 1)
    (K : ∀ v' w', Built W1 c (es ++ [e]) v' w' → wpList Tryd.prog ops Q rest (a.put o.dst v') w') : wpList Tryd.prog ops Q (o :: rest) a (w.alloc (.cells #[.int .i64 d, .func (.func f) #[] B] 58)) := by
  subst hhs
  obtain ⟨h1, h2, L, h3, h4⟩ := h
  refine app_arm Tryd.underlying54 infoAct rfl (by omega) (by omega) W1.heap.size w lv _ _ h4 1 [.int .i64 d, .func (.func f) #[] B] rfl (fun u hu => by simp at hu; rcases hu with rfl | rfl <;> rfl) (by omega) h2.size hgd sO xO ho hv hx ?_
  intro v' w' ho' hg
  have hal := KeepT.alloc w (.cells #[.int .i64 d, .func (.func f) #[] B] 58)
  have hk : KeepT w w' := hal.trans (KeepT.grown (h4.alloc _) hg)
  refine K v' w' ⟨fun e => by simp at e, (h2.alloc h2.size _).grown hg (by have := h2.size; simp; omega) (fun k hk => (h4.lt k hk).1), L ++ [(d, f, B)], (h3.keep hk).add (k.keep hk), ?_⟩
  rw [List.length_append, acC_app]
  exact ho'

/-- A year's acts, as they are told: the year's turn, the loss of what was carried, the moves. -/
def evsOf (Y0 Ex y : Int) (m : Nat) (D G T : Nat → Int) : List Ev := (if Y0 < y then [.turn (mstart y 1)] else []) ++ (if Ex < 12 then [.exp (mstart y (1 + Ex))] else []) ++ (List.range m).map (fun j => .mv (D j) (G j) (T j))
/-- What acts leaves. -/
def ActsPost (c : Int) (es : List Ev) (w : World) (e : Ending) (w' : World) : Prop := ∃ pa cp L f, e = .returned (.slice pa es.length cp) ∧ EvsIn w' c L es ∧ Below w.heap.size w w' ∧ Len w' ∧ (es.length = 0 ∨ ∃ g, pa = some ⟨g, 0, none⟩ ∧ w.heap.size ≤ g ∧ Ss.Row w' g es.length (els L) f ∧ Ss.Good (Ss.rank (els L)) f 0 es.length)
theorem mstart_le {y m : Int} (y1 : 1900 ≤ y) (y2 : y ≤ 2199) (m1 : 1 ≤ m) (m2 : m ≤ 12) : mstart y m ≤ 84006 := by
  obtain ⟨h1, h2⟩ := mstart_ok y1 y2 m1 m2
  have := num_bd h1
  omega

set_option maxHeartbeats 1000000 in
theorem stable_nil (w : World) (F : Value) : Calls Tryd.prog 41 #[.slice none 0 0, F] w fun e w' => e = .returned (.tuple #[]) ∧ w' = w := by
  have hI : ∀ W, Calls Tryd.prog 52 #[.slice none 0 0, .int .i64 0, .int .i64 0, F] W fun e w' => e = .returned (.tuple #[]) ∧ w' = W := fun W => by
    go_enter Tryd.func52, Tryd.ntmps52
    go_wp2
    refine wp_loop_rounds 1 ?_
    rw [rounds_succ]
    go_wp2
    go_end0
    exact ⟨rfl, rfl⟩
  have hS : Calls Tryd.prog 49 #[.slice none 0 0, .int .i64 0, F] w fun e w' => e = .returned (.tuple #[]) ∧ w' = w := by
    go_enter Tryd.func49, Tryd.ntmps49
    go_wp2
    refine wp_loop_rounds 1 ?_
    rw [rounds_succ]
    go_wp2_with (go_at_call 52; refine (hI _).mono ?_; rintro e w1 ⟨rfl, rfl⟩)
    refine wp_loop_rounds 1 ?_
    rw [rounds_succ]
    go_wp2
    go_end0
    exact ⟨rfl, rfl⟩
  go_enter Tryd.func41, Tryd.ntmps41
  go_wp2_with (go_at_call 49; refine hS.mono ?_; rintro e w1 ⟨rfl, rfl⟩)
  go_end0
  exact ⟨rfl, rfl⟩
theorem own_row {w : World} {base n : Nat} {v : Value} {L : List Sl} (hl : L.length = n) (h : w.ownsRow base 58 2 v n (acC L)) (hn : 0 < n) :
    ∃ g c cur q, v = .slice (some ⟨g, 0, none⟩) n c ∧ base ≤ g ∧ w.heap[g]? = some (.cells cur 58 q) ∧ Ss.Row w g n (els L) id := by
  rcases h.2 with ⟨h1, h2⟩ | ⟨g, c, cur, h1, h2, h3, h4⟩
  · exfalso; omega
  · subst h1
    have hg := lt_of_at h3
    refine ⟨g, c, cur, (0, 0), rfl, h2, h3, hg, fun j hj => ?_⟩
    obtain ⟨a, b⟩ := acC_at L j (by omega)
    have hc := fun i u hu => (by have := h.cells (g := g) rfl i u hu; rwa [add_at] at this : w.cell? ⟨g, i, none⟩ = some u)
    refine ⟨hc _ _ a, hc _ _ b, ?_, ?_⟩ <;> simp [World.frozen?, h3]

theorem sort_acts {W1 w : World} {c : Int} {es : List Ev} {lv : Value} (h : Built W1 c es lv w) (hn : es.length ≤ 1000) (hL : Len w) (h0 : 0 < W1.heap.size) : Calls Tryd.prog 41 #[lv, .func (.func 42) #[] #[]] w fun e w' => e = .returned (.tuple #[]) ∧ ∃ pa cp L f, lv = .slice pa es.length cp ∧ EvsIn w' c L es ∧ Below W1.heap.size W1 w' ∧ Len w' ∧ (es.length = 0 ∨ ∃ g, pa = some ⟨g, 0, none⟩ ∧ W1.heap.size ≤ g ∧ Ss.Row w' g es.length (els L) f ∧ Ss.Good (Ss.rank (els L)) f 0 es.length) := by
  obtain ⟨h1, h2, L, h3, h4⟩ := h
  by_cases e0 : es = []
  · rw [h1 e0]
    refine (stable_nil w _).mono ?_
    rintro e w' ⟨rfl, rfl⟩
    exact ⟨rfl, none, 0, L, id, by rw [e0]; rfl, h3, h2, hL, .inl (by rw [e0]; rfl)⟩
  · have hp : 0 < es.length := List.length_pos_iff.2 e0
    obtain ⟨g, cp, cur, q, rfl, hg, hh, hR⟩ := own_row h3.1 h4 hp
    have hd : ∀ x, x < es.length → (els L).d x ≤ 1000000 := fun x hx => by
      obtain ⟨a, b, -⟩ := h3.2 x (by rw [h3.1]; exact hx)
      show (Sl.get L x).1 ≤ _
      rw [a]
      revert b
      cases es.getD x (.exp 0) <;> simp only [Ev.ok, Ev.day] <;> omega
    refine (Ss.sortStable_any g es.length cp (els L) (Ss.rank (els L)) id w hn (fun _ _ => rfl) hR (Ss.cmpOk _ _ hd)).mono ?_
    rintro e w' ⟨rfl, ⟨f', hR', hG'⟩, hb⟩
    have hbl := hb.below hg h2.size
    refine ⟨rfl, _, _, L, f', rfl, h3.keep (KeepT.but hh hb), h2.trans hbl, fun k hk => ?_, .inr ⟨g, rfl, hg, hR', hG'⟩⟩
    have hc := hL k hk
    refine (hb.cell (p := ⟨_, k, none⟩) (World.block_lt_of_cell? w _ hc) ?_).trans hc
    intro e
    have e' : 0 = g := e
    omega

set_option maxHeartbeats 4000000 in
set_option maxRecDepth 100000 in
theorem acts_any (Y0 Ca Ex y : Int) (y0 : 1900 ≤ Y0) (y1 : Y0 ≤ y) (y2 : y ≤ 2199) (c1 : 0 ≤ Ca) (c2 : Ca ≤ 1000000) (x1 : 0 ≤ Ex) (x2 : Ex ≤ 12) (p : Option Addr) (m cp : Nat) (D G T : Nat → Int) (w : World) (hm : m ≤ 900) (hM : MvIn w p m D G T)
    (hok : ∀ j, j < m → (Ev.mv (D j) (G j) (T j)).ok) (hL : Len w) :
    Calls Tryd.prog 21 #[.agg #[.int .i64 Y0, .int .i64 Ca, .int .i64 Ex], .int .i64 y, .slice p m cp] w (ActsPost Ca (evsOf Y0 Ex y m D G T) w) := by
  obtain ⟨W1, hW1⟩ : ∃ W1, W1 = w.alloc (.cells #[.int .i64 Y0, .int .i64 Ca, .int .i64 Ex] 23) := ⟨_, rfl⟩
  have hb0 : Below w.heap.size w W1 := by rw [hW1]; exact (Below.refl _ _).alloc (Nat.le_refl _) _
  have hbs : w.heap.size < W1.heap.size := by rw [hW1]; simp
  have hp : W1.heap[w.heap.size]? = some (.cells #[.int .i64 Y0, .int .i64 Ca, .int .i64 Ex] 23 (0, 0)) := by rw [hW1]; exact heap_new _ _
  have HM := Lib.hid (hM.below hb0 (Nat.le_refl _))
  have HL := Lib.hid (by rw [hW1]; exact hL.alloc _ : Len W1)
  have HOK := Lib.hid hok
  have HP := Lib.hid hp
  have q0 : W1.cell? ⟨w.heap.size, 0, none⟩ = some (.int .i64 Y0) := cell_of hp 0 rfl
  have q2 : W1.cell? ⟨w.heap.size, 2, none⟩ = some (.int .i64 Ex) := cell_of hp 2 rfl
  have h0 : 0 < W1.heap.size := World.block_lt_of_cell? W1 _ (HL.out 0 (by omega))
  have HB0 := Lib.hid hb0
  have HMS := Lib.hid (fun m m1 m2 W hW => mstart_any y m (by omega) y2 m1 m2 W hW)
  clear hM hok hL hp hb0
  obtain ⟨E1, hE1⟩ : ∃ E1 : List Ev, E1 = (if Y0 < y then [.turn (mstart y 1)] else []) := ⟨_, rfl⟩
  obtain ⟨E2, hE2⟩ : ∃ E2 : List Ev, E2 = (if Ex < 12 then [.exp (mstart y (1 + Ex))] else []) := ⟨_, rfl⟩
  have HE1 := Lib.hid hE1
  have HE2 := Lib.hid hE2
  have hl1 : E1.length ≤ 1 := by rw [hE1]; split <;> simp
  have hl2 : E2.length ≤ 1 := by rw [hE2]; split <;> simp
  have hev : evsOf Y0 Ex y m D G T = E1 ++ E2 ++ (List.range m).map (fun j => .mv (D j) (G j) (T j)) := by unfold evsOf; rw [hE1, hE2]
  obtain ⟨E0, hE0⟩ : ∃ E0, E0 = E1 ++ E2 := ⟨_, rfl⟩
  have hl0 : E0.length ≤ 2 := by rw [hE0, List.length_append]; omega
  have HE0 := Lib.hid hE0
  rw [hev, ← hE0]
  clear hE1 hE2 hev hE0
  go_enter Tryd.func21, Tryd.ntmps21
  go_upto_if 13 with fail
  rw [← hW1]
  clear hW1
  go_cut [7] (fun lv wx => Hid (Built W1 Ca E1 lv wx))
  case first =>
    by_cases hY : Y0 < y
    · go_wp2_with fail
      refine (HMS.out 1 (by omega) (by omega) _ HL.out).mono ?_
      rintro e w2 ⟨rfl, hb2⟩
      have HB2 := Lib.hid ((Built.nil (c := Ca) (Below.refl W1.heap.size W1)).keep hb2)
      have HV := Lib.hid (show EvIn w2 Ca (mstart y 1, 36, #[.pointer (some ⟨w.heap.size, 0, none⟩)]) (.turn (mstart y 1)) from ⟨rfl, mstart_le (by omega) y2 (by omega) (by omega), rfl, w.heap.size, Y0, Ex, rfl, (hb2.block _ hbs).trans HP.out⟩)
      have HQ : Hid (E1 = [.turn (mstart y 1)]) := Lib.hid (by rw [HE1.out, if_pos hY])
      clear hb2
      generalize mstart y 1 = d at HV HQ ⊢
      go_wp2_with (at_builtin; refine Built.arm HB2.out d 36 #[.pointer (some ⟨w.heap.size, 0, none⟩)] _ HV.out (by simp) _ rfl rfl _ _ rfl rfl rfl ?_; intro v' w3 hB3)
      go_meet
      case rel => exact Lib.hid (by rw [HQ.out]; exact hB3)
    · have HQ : Hid (E1 = []) := Lib.hid (by rw [HE1.out, if_neg hY])
      go_wp2
      go_meet
      case rel => exact Lib.hid (by rw [HQ.out]; exact Built.nil (Below.refl _ _))
  case rest =>
  have HB := hcut
  clear hcut
  have hbc := HB.out.2.1
  have q2c := (hbc.cell (p := ⟨w.heap.size, 2, none⟩) hbs).trans q2
  have HLc := Lib.hid (HL.out.below hbc (Nat.le_refl _))
  clear q0 q2
  have hsz := hbc.size
  go_upto_if 23 with fail
  go_cut [7] (fun lv wx => Hid (Built W1 Ca E0 lv wx))
  case first =>
    by_cases hX : Ex < 12
    · have s1 : IntKind.i64.wrap (1 + Ex) = 1 + Ex := IntWalk.i64_in _ (by omega)
      go_wp2_with fail
      refine (HMS.out (1 + Ex) (by omega) (by omega) _ HLc.out).mono ?_
      rintro e w2 ⟨rfl, hb2⟩
      have HB2 := Lib.hid (HB.out.keep hb2)
      have HV := Lib.hid (show EvIn w2 Ca (mstart y (1 + Ex), 38, #[]) (.exp (mstart y (1 + Ex))) from ⟨rfl, mstart_le (by omega) y2 (by omega) (by omega), rfl, rfl⟩)
      have HQ : Hid (E2 = [.exp (mstart y (1 + Ex))]) := Lib.hid (by rw [HE2.out, if_pos hX])
      clear hb2
      generalize mstart y (1 + Ex) = d at HV HQ ⊢
      go_wp2_with (at_builtin; refine Built.arm HB2.out d 38 #[] _ HV.out (by omega) _ rfl rfl _ _ rfl rfl rfl ?_; intro v' w3 hB3)
      go_meet
      case rel => exact Lib.hid (by rw [HE0.out, HQ.out]; exact hB3)
    · have HQ : Hid (E2 = []) := Lib.hid (by rw [HE2.out, if_neg hX])
      go_wp2
      go_meet
      case rel => exact Lib.hid (by rw [HE0.out, HQ.out, List.append_nil]; exact HB.out)
  case rest =>
  clear HB q2c HLc hbc hsz
  have HB := hcut
  clear hcut
  clear HE1 HE2 HE0 hl1 hl2 HMS
  go_wp2
  go_loopw [7, 35] (fun lv kv wr => ∃ k : Nat, k ≤ m ∧ kv = .int .i64 k ∧ Hid (Built W1 Ca (E0 ++ (List.range k).map (fun j => .mv (D j) (G j) (T j))) lv wr)) (fun _ kv _ => m - (RowKit.intOf kv).toNat)
  case atStart => exact ⟨0, by omega, rfl, Lib.hid (by simpa using HB.out)⟩
  case round =>
    clear HB
    obtain ⟨k, hk, rfl, HB⟩ := hrel
    by_cases hlt : k < m
    · rcases HM.out with h | ⟨bb, o, rfl, hc⟩
      · omega
      obtain ⟨d0, d1, d2⟩ := hc k hlt
      have hbc := HB.out.2.1
      have hbb := World.block_lt_of_cell? W1 _ d0
      have e0 := (hbc.cell (p := ⟨bb, o + k * 3, none⟩) hbb).trans d0
      have e1 := (hbc.cell (p := ⟨bb, o + k * 3 + 1, none⟩) hbb).trans d1
      have e2 := (hbc.cell (p := ⟨bb, o + k * 3 + 2, none⟩) hbb).trans d2
      have i1 : (k : Int) < (m : Int) := by omega
      have HQ : Hid (E0 ++ (List.range (k + 1)).map (fun j => Ev.mv (D j) (G j) (T j)) = (E0 ++ (List.range k).map (fun j => .mv (D j) (G j) (T j))) ++ [.mv (D k) (G k) (T k)]) := Lib.hid (by rw [List.range_succ, List.map_append, List.append_assoc]; rfl)
      have HOk := Lib.hid (HOK.out k hlt)
      have hlen : (E0 ++ (List.range k).map (fun j => Ev.mv (D j) (G j) (T j))).length ≤ 100000 := by rw [List.length_append, List.length_map, List.length_range]; omega
      obtain ⟨es, hes⟩ : ∃ es, es = E0 ++ (List.range k).map (fun j => Ev.mv (D j) (G j) (T j)) := ⟨_, rfl⟩
      rw [← hes] at HB HQ hlen
      clear d0 d1 d2 hc hbc hes
      obtain ⟨d, hd⟩ : ∃ d, D k = d := ⟨_, rfl⟩
      obtain ⟨gq, hgq⟩ : ∃ d, G k = d := ⟨_, rfl⟩
      obtain ⟨t, ht⟩ : ∃ d, T k = d := ⟨_, rfl⟩
      rw [hd] at e0 HQ HOk
      rw [hgq] at e1 HQ HOk
      rw [ht] at e2 HQ HOk
      clear hd hgq ht
      have HB2 := Lib.hid (HB.out.keep ((Below.refl wr.heap.size wr).alloc (Nat.le_refl _) (.cells #[.int .i64 d, .int .i64 gq, .int .i64 t] 42)))
      have HV := Lib.hid (show EvIn (wr.alloc (.cells #[.int .i64 d, .int .i64 gq, .int .i64 t] 42)) Ca (d, 39, #[.pointer (some ⟨wr.heap.size, 0, none⟩)]) (.mv d gq t) from ⟨rfl, HOk.out, rfl, wr.heap.size, rfl, heap_new _ _⟩)
      go_wp2_with (at_builtin; refine Built.arm HB2.out d 39 #[.pointer (some ⟨wr.heap.size, 0, none⟩)] _ HV.out hlen (wr.heap.size + 1) (by simp) rfl _ _ rfl rfl rfl ?_; intro v' w3 hB3)
      exact ⟨⟨k + 1, by omega, by go_num, Lib.hid (by rw [HQ.out]; exact hB3)⟩, by simp [RowKit.intOf]; omega⟩
    · obtain rfl : k = m := by omega
      have hlen : (E0 ++ (List.range k).map (fun j => Ev.mv (D j) (G j) (T j))).length ≤ 1000 := by rw [List.length_append, List.length_map, List.length_range]; omega
      obtain ⟨es, hes⟩ : ∃ es, E0 ++ (List.range k).map (fun j => Ev.mv (D j) (G j) (T j)) = es := ⟨_, rfl⟩
      rw [hes] at HB hlen
      have HES := Lib.hid hes
      clear hes
      have HLr := Lib.hid (HL.out.below HB.out.2.1 (Nat.le_refl _))
      have HST := Lib.hid (sort_acts HB.out hlen HLr.out h0)
      go_wp2_with fail
      refine (HST.out).mono ?_
      rintro e w2 ⟨rfl, pa, cp', L, f, hlv, hE, hb, hL2, hR⟩
      have HF := Lib.hid (show ActsPost Ca es w (.returned (.slice pa es.length cp')) w2 from ⟨pa, cp', L, f, rfl, hE, HB0.out.trans (hb.mono HB0.out.size), hL2, hR.imp id (fun ⟨g, h1, h2, h3⟩ => ⟨g, h1, Nat.le_trans HB0.out.size h2, h3⟩)⟩)
      clear hE hb hL2 hR HST HLr HB
      subst hlv
      go_wp2
      go_ret
      rw [HES.out]
      exact HF.out

end Go.Proofs.YtpejdbnphjheeaaDoor
