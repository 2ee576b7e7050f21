/-
  What is proved: lists of codes and amounts: what is found in them, and put; slices of items that lie in memory, and such a slice that the call makes itself by appends. Conditions: as each says.
-/
import Derived.Test.YtaeldoipflcknaaMsA
import Derived.Deep.AppendLies
import Derived.Deep.RegionLaw
import Derived.Deep.DrawnRows
import Derived.Maps.AppendAt
import Derived.Lib.AppendZeros
import Derived.Deep.AppendSrc
namespace Go.Proofs.Ytaeldoipflcknaa
open Go Go.RowKit Go.Lib Go.Proofs
set_option linter.unusedVariables false

abbrev Ti := List (ByteArray × Int)
def hasI (L : Ti) (s : ByteArray) : Bool := L.any fun p => decide (p.1 = s)
def atI : Ti → ByteArray → Int
  | [], _ => 0
  | p :: r, s => if p.1 = s then p.2 else atI r s
def delI (L : Ti) (s : ByteArray) : Ti := L.filter fun p => decide (p.1 ≠ s)
def setI (L : Ti) (s : ByteArray) (v : Int) : Ti := delI L s ++ [(s, v)]
def vT (L : Ti) : Tb := L.map fun p => (p.1, .int .i64 p.2)
theorem vT_has (L : Ti) (s : ByteArray) : hasT (vT L) s = hasI L s := by
  induction L with
  | nil => rfl
  | cons p r ih => simp only [hasT, hasI, vT, List.map_cons, List.any_cons] at ih ⊢; rw [ih]
theorem vT_lk (L : Ti) (s : ByteArray) : lkT (vT L) s (.int .i64 0) = .int .i64 (atI L s) := by
  induction L with
  | nil => rfl
  | cons p r ih =>
    show (if p.1 = s then _ else lkT (vT r) s _) = _
    rw [ih, atI]; split <;> rfl
theorem vT_del (L : Ti) (s : ByteArray) : vT (delI L s) = delT (vT L) s := by
  induction L with
  | nil => rfl
  | cons p r ih =>
    unfold delI delT vT at ih ⊢
    rw [List.map_cons, List.filter_cons, List.filter_cons]
    by_cases e : p.1 = s
    · rw [if_neg (by simp [e]), if_neg (by simp [e]), ih]
    · rw [if_pos (by simp [e]), if_pos (by simp [e]), List.map_cons, ih]
theorem vT_set (L : Ti) (s : ByteArray) (v : Int) : vT (setI L s v) = setT (vT L) s (.int .i64 v) := by
  unfold setI setT
  rw [← vT_del]; simp [vT]
theorem vT_len (L : Ti) : (vT L).length = L.length := by simp [vT]
theorem atI_not {L : Ti} {s : ByteArray} (h : hasI L s = false) : atI L s = 0 := by
  have h1 := vT_lk L s
  rw [lkT_not (by rw [vT_has]; exact h)] at h1
  injection h1 with _ h1
  exact h1.symm
theorem hasI_set (L : Ti) (s k : ByteArray) (v : Int) : hasI (setI L s v) k = (hasI L k || decide (k = s)) := by
  rw [← vT_has, vT_set, hasT_set, vT_has]
theorem atI_set (L : Ti) (s k : ByteArray) (v : Int) : atI (setI L s v) k = if k = s then v else atI L k := by
  have h := vT_lk (setI L s v) k
  rw [vT_set, lkT_set, vT_lk] at h
  by_cases e : k = s
  · rw [if_pos e] at h ⊢; injection h with _ h; exact h.symm
  · rw [if_neg e] at h ⊢; injection h with _ h; exact h.symm
def UqI (L : Ti) : Prop := L.Pairwise fun p q => p.1 ≠ q.1
theorem UqI.tb {L : Ti} (h : UqI L) : Uq (vT L) := List.pairwise_map.2 h
theorem UqI.of {L : Ti} (h : Uq (vT L)) : UqI L := (List.pairwise_map (f := fun p : ByteArray × Int => (p.1, Value.int .i64 p.2)) (R := fun p q => p.1 ≠ q.1)).1 h
theorem UqI.set {L : Ti} (h : UqI L) (s : ByteArray) (v : Int) : UqI (setI L s v) := UqI.of (by rw [vT_set]; exact h.tb.set s _)
theorem vT_any (L : Ti) (s : ByteArray) (z : Value) : lkT (vT L) s z = if hasI L s = true then .int .i64 (atI L s) else z := by
  by_cases h : hasI L s = true
  · rw [if_pos h, lkT_has (by rw [vT_has]; exact h) z (.int .i64 0), vT_lk]
  · rw [if_neg h, lkT_not (by rw [vT_has]; simpa using h)]
/-- Two lists tell the same. -/
theorem al_of {L M : Ti} (h : ∀ s, hasI L s = hasI M s ∧ atI L s = atI M s) : Al (vT L) (vT M) := fun s => ⟨by rw [vT_has, vT_has, (h s).1], fun z => by rw [vT_any, vT_any, (h s).1, (h s).2]⟩

/-! ### items in memory -/
/-- Items (or what is taken so far) that lie where a slice says. -/
def ItIn (w : World) (p : Option Addr) (n : Nat) (C : Nat → ByteArray × Int) : Prop := n = 0 ∨ ∃ b o, p = some ⟨b, o, none⟩ ∧ b < w.heap.size ∧ ∀ j, j < n → w.cell? ⟨b, o + j * 2, none⟩ = some (.string (C j).1) ∧ w.cell? ⟨b, o + j * 2 + 1, none⟩ = some (.int .i64 (C j).2)
theorem ItIn.below {w w' : World} {p : Option Addr} {n : Nat} {C : Nat → ByteArray × Int} (h : ItIn w p n C) (hb : Below w.heap.size w w') : ItIn w' p n C := by
  rcases h with h | ⟨b, o, hp, hl, hc⟩
  · exact .inl h
  · exact .inr ⟨b, o, hp, Nat.lt_of_lt_of_le hl hb.size, fun j hj => ⟨(hb.cell (p := ⟨b, o + j * 2, none⟩) hl).trans (hc j hj).1, (hb.cell (p := ⟨b, o + j * 2 + 1, none⟩) hl).trans (hc j hj).2⟩⟩
theorem ItIn.kb {w w' : World} {p : Option Addr} {n B : Nat} {C : Nat → ByteArray × Int} (h : ItIn w p n C) (hB : w.heap.size ≤ B) (hb : Below B w w') : ItIn w' p n C := h.below (hb.mono hB)
theorem ItIn.at {w : World} {p : Option Addr} {n : Nat} {C : Nat → ByteArray × Int} (h : ItIn w p n C) {j : Nat} (hj : j < n) : ∃ b o, p = some ⟨b, o, none⟩ ∧ b < w.heap.size ∧ w.cell? ⟨b, o + j * 2, none⟩ = some (.string (C j).1) ∧ w.cell? ⟨b, o + j * 2 + 1, none⟩ = some (.int .i64 (C j).2) := by
  rcases h with h | ⟨b, o, hp, hl, hc⟩
  · omega
  · exact ⟨b, o, hp, hl, hc j hj⟩

/-- The cells of a list of items. -/
def itC : Ti → List Value
  | [] => []
  | p :: r => .string p.1 :: .int .i64 p.2 :: itC r
theorem itC_append : ∀ (L M : Ti), itC (L ++ M) = itC L ++ itC M
  | [], _ => rfl
  | p :: r, M => by rw [List.cons_append, itC, itC, itC_append r M]; rfl
theorem itC_len : ∀ L : Ti, (itC L).length = L.length * 2
  | [] => rfl
  | p :: r => by rw [itC, List.length_cons, List.length_cons, itC_len r, List.length_cons]; omega
theorem itC_at : ∀ (L : Ti) (j : Nat) (h : j < L.length), (itC L)[j * 2]? = some (.string L[j].1) ∧ (itC L)[j * 2 + 1]? = some (.int .i64 L[j].2)
  | p :: r, 0, _ => ⟨rfl, rfl⟩
  | p :: r, j + 1, h => by
    have := itC_at r j (by simpa using h)
    rw [show (j + 1) * 2 = j * 2 + 1 + 1 by omega, itC]
    simpa using this
/-- A row of the call's own that has the items of a list. -/
def OwnI (w : World) (base : Nat) (E : TypeId) (v : Value) (L : Ti) : Prop := w.ownsRow base E 2 v L.length (itC L)
theorem OwnI.nil (w : World) (base : Nat) (E : TypeId) : OwnI w base E (.slice none 0 0) [] := World.ownsRow_nil _ _ _ _
theorem OwnI.below {w w' : World} {base : Nat} {E : TypeId} {v : Value} {L : Ti} (h : OwnI w base E v L) (hb : Below w.heap.size w w') : OwnI w' base E v L :=
  World.ownsRow.kept h (row := none) ⟨hb.os, hb.tape, hb.output, hb.size, fun k hk _ => hb.block k hk⟩ (by
    cases v.ownBlock <;> simp)
theorem OwnI.grown {w w' : World} {base : Nat} {E : TypeId} {v : Value} {L : Ti} {row : Option Nat} (h : OwnI w base E v L) (hg : w.grownBy w' row) (hne : v.ownBlock = none ∨ v.ownBlock ≠ row) : OwnI w' base E v L := World.ownsRow.kept h hg hne
theorem OwnI.items {w : World} {base : Nat} {E : TypeId} {v : Value} {L : Ti} (h : OwnI w base E v L) : ∃ p c, v = .slice p L.length c ∧ ItIn w p L.length (fun j => L.getD j (⟨#[]⟩, 0)) := by
  rcases h.2 with ⟨h1, h2⟩ | ⟨g, c, cur, h1, h2, h3, h4, -⟩
  · have : L.length = 0 := by omega
    exact ⟨none, 0, by rw [h1, this], .inl this⟩
  · refine ⟨some ⟨g, 0, none⟩, c, h1, ?_⟩
    by_cases h0 : L.length = 0
    · exact .inl h0
    · have hg : g < w.heap.size := (Array.getElem?_eq_some_iff.1 h3).1
      refine .inr ⟨g, 0, rfl, hg, fun j hj => ?_⟩
      obtain ⟨a, b⟩ := itC_at L j hj
      have hc := fun i u hu => (by have := World.ownsRow.cells h (g := g) (by rw [h1]; rfl) i u hu; rwa [Go.WideShapes.add_plain] at this : w.cell? ⟨g, 0 + i, none⟩ = some u)
      have e : L.getD j (⟨#[]⟩, 0) = L[j] := by rw [List.getD_eq_getElem?_getD, List.getElem?_eq_getElem hj]; rfl
      dsimp only
      rw [e]
      exact ⟨hc _ _ a, hc _ _ b⟩

theorem Below.drewsN {B : Nat} {w w' : World} (h : Below B w w') (n : Nat) : Below B w (w'.drewN n) := ⟨h.os, h.tape, h.output, h.size, h.block⟩
/-! ### an item more -/
theorem info_of {P : Program} {E : TypeId} {z : Value} {s b : Nat} (h : (P.info? E).map (fun i => (i.zero, i.size, i.bytes)) = some (some z, s, b)) : ∃ i, P.info? E = some i ∧ i.zero = some z ∧ i.size = s ∧ i.bytes = b := by
  cases hi : P.info? E with
  | none => rw [hi] at h; simp at h
  | some i => rw [hi] at h; simp at h; exact ⟨i, rfl, h⟩
theorem grown_below {B : Nat} {w0 w w' : World} {row : Option Nat} (h : Below B w0 w) (hg : w.grownBy w' row) (hB : B ≤ w.heap.size) (hr : ∀ k, row = some k → B ≤ k) : Below B w0 w' := by
  refine ⟨hg.os.trans h.os, hg.tape.trans h.tape, hg.output.trans h.output, Nat.le_trans h.size hg.size, fun k hk => ?_⟩
  exact (hg.block k (by omega) (fun e => by have := hr k e.symm; omega)).trans (h.block k hk)
theorem app_new {T E : TypeId} {z : Value} {s b : Nat} (hT : Try.prog.underlying T = some (.slice E)) (hI : (Try.prog.info? E).map (fun i => (i.zero, i.size, i.bytes)) = some (some z, s, b)) (hz : z.cells.size = s) (hs : 0 < s) (hb : b ≤ 64) (base : Nat) (ty : TypeId) (w : World) (v : Value) (n : Nat) (xs : List Value) (hown : w.ownsRow base E s v n xs)
    (m : Nat) (news : List Value) (hl : news.length = m * s) (h1 : ∀ u ∈ news, u.oneCell' = true) (hn : n + m ≤ 1000000) (hbase : base ≤ w.heap.size) :
    ∃ v' w', (Builtin.append_ #[T, T] ty #[v, .slice (some ⟨w.heap.size, 0, none⟩) m m]).run Try.prog (w.alloc (.cells news.toArray E)) = .ok v' w' ∧ w'.ownsRow base E s v' (n + m) (xs ++ news) ∧ (w.alloc (.cells news.toArray E)).grownBy w' v.ownBlock ∧ (v'.ownBlock = v.ownBlock ∨ v'.ownBlock = some (w.heap.size + 1)) := by
  obtain ⟨i, hi, hz0, hz1, hz2⟩ := info_of hI
  have hm : (n + m) * b ≤ 1000000 * 64 := Nat.mul_le_mul hn hb
  obtain ⟨v', w', h1, h2, h3, _, h4⟩ := run_append_own_at (P := Try.prog) (w.alloc (.cells news.toArray E)) base T ty E i z s b hT hi hz0 hz1 hz2 hz hs v n xs (hown.alloc _) ⟨w.heap.size, 0, none⟩ m m news hl
    (fun j u hu => by rw [Go.WideShapes.add_plain, Nat.zero_add, World.cell?_alloc_new]; simpa using hu)
    h1 (by unfold maxLen; omega) (by omega) (by simp; omega)
  exact ⟨v', w', h1, h2, h3, by simpa using h4⟩
theorem it_arm {T E : TypeId} (hT : Try.prog.underlying T = some (.slice E)) (hI : (Try.prog.info? E).map (fun i => (i.zero, i.size, i.bytes)) = some (some (.agg #[.string ⟨#[]⟩, .int .i64 0]), 2, 24)) {B : Nat} {w0 w : World} {v : Value} {L : Ti} (hown : OwnI w B E v L) (hb : Below B w0 w) (hB : B ≤ w.heap.size) (hn : L.length + 1 ≤ 1000000) (s : ByteArray) (c : Int)
    {ops : Array Oper} {rest : List Oper} {o : Oper} {a : Act} {Q : Exit → Act → World → Prop} (hgd : o.guard = none) (sO xO : Operand) (ho : o.op = .call { callee := .builtin .append, args := #[sO, xO], argTypes := #[T, T] }) (hv : a.eval sO = v) (hx : a.eval xO = .slice (some ⟨w.heap.size, 0, none⟩) 1 1)
    (h : ∀ v' w', OwnI w' B E v' (L ++ [(s, c)]) → Below B w0 w' → (w.alloc (.cells #[.string s, .int .i64 c] E)).grownBy w' v.ownBlock → (v'.ownBlock = v.ownBlock ∨ v'.ownBlock = some (w.heap.size + 1)) → wpList Try.prog ops Q rest (a.put o.dst v') w') : wpList Try.prog ops Q (o :: rest) a (w.alloc (.cells #[.string s, .int .i64 c] E)) := by
  obtain ⟨v', w', hr, h2, h3, h4⟩ := app_new hT hI rfl (by omega) (by omega) B o.type w v L.length _ hown 1 [.string s, .int .i64 c] rfl (fun u hu => by simp at hu; rcases hu with rfl | rfl <;> rfl) hn hB
  refine Lib.wpList_append_run _ hgd sO xO T T ho v _ hv hx v' w' hr (h v' w' ?_ ?_ h3 h4)
  · unfold OwnI
    rw [List.length_append, itC_append]
    exact h2
  · exact grown_below (hb.alloc hB _) h3 (by simp; omega) (fun k hk => (hown.lt k hk).1)

end Go.Proofs.Ytaeldoipflcknaa
