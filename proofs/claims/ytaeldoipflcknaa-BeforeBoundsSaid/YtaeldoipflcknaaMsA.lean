/-
  What is proved: how a map of texts lies in memory, as a list of keys and elements without a key twice: what is looked up in it, and what a store leaves. Conditions: keys are no longer than a text may be.
-/
import Derived.Test.YtaeldoipflcknaaRows
import Derived.Test.YtaeldoipflcknaaChecked
import Derived.WalkKit
import Derived.WalkSpells
import Derived.WalkLawsBesides
import Derived.Lib.Hide
import Derived.Lib.Walk
import Derived.Maps.OwnSet
import Derived.Maps.Views
import Derived.Maps.Ext
import Derived.Lib.SlMapMerge
import Derived.StringKeys
namespace Go.Proofs.Ytaeldoipflcknaa
open Go Go.RowKit Go.Lib Go.Proofs
open Go.Maps (Keyed)
set_option linter.unusedVariables false

/-! ### lists of keys and elements -/
abbrev Tb := List (ByteArray × Value)
def hasT (L : Tb) (s : ByteArray) : Bool := L.any fun p => decide (p.1 = s)
def lkT : Tb → ByteArray → Value → Value
  | [], _, z => z
  | p :: r, s, z => if p.1 = s then p.2 else lkT r s z
def delT (L : Tb) (s : ByteArray) : Tb := L.filter fun p => decide (p.1 ≠ s)
def setT (L : Tb) (s : ByteArray) (v : Value) : Tb := delT L s ++ [(s, v)]
def Uq (L : Tb) : Prop := L.Pairwise fun p q => p.1 ≠ q.1

theorem lkT_not {L : Tb} {s : ByteArray} (h : hasT L s = false) (z : Value) : lkT L s z = z := by
  induction L with
  | nil => rfl
  | cons p r ih =>
    simp only [hasT, List.any_cons, Bool.or_eq_false_iff, decide_eq_false_iff_not] at h
    rw [lkT, if_neg h.1]; exact ih h.2
theorem lkT_has {L : Tb} {s : ByteArray} (h : hasT L s = true) (z z' : Value) : lkT L s z = lkT L s z' := by
  induction L with
  | nil => cases h
  | cons p r ih =>
    simp only [hasT, List.any_cons, Bool.or_eq_true, decide_eq_true_eq] at h
    unfold lkT
    by_cases e : p.1 = s
    · rw [if_pos e, if_pos e]
    · rw [if_neg e, if_neg e]; exact ih (h.resolve_left e)
theorem lkT_append (L M : Tb) (s : ByteArray) (z : Value) : lkT (L ++ M) s z = if hasT L s = true then lkT L s z else lkT M s z := by
  induction L with
  | nil => simp [hasT]
  | cons p r ih =>
    rw [List.cons_append, lkT, lkT, ih]
    by_cases e : p.1 = s
    · rw [if_pos e, if_pos e, if_pos (show hasT (p :: r) s = true by simp [hasT, e])]
    · rw [if_neg e, if_neg e, show hasT (p :: r) s = hasT r s by simp [hasT, e]]
theorem hasT_append (L M : Tb) (s : ByteArray) : hasT (L ++ M) s = (hasT L s || hasT M s) := by simp [hasT]
theorem hasT_del (L : Tb) (s k : ByteArray) : hasT (delT L s) k = (hasT L k && decide (k ≠ s)) := by
  induction L with
  | nil => simp [hasT, delT]
  | cons p r ih =>
    unfold delT at ih ⊢
    rw [List.filter_cons]
    by_cases e : p.1 = s
    · rw [if_neg (by simp [e]), ih]
      by_cases ek : k = s
      · subst ek; simp
      · have : ¬ s = k := fun h => ek h.symm
        simp [hasT, e, this]
    · rw [if_pos (by simp [e])]
      simp only [hasT, List.any_cons] at ih ⊢
      rw [ih]
      by_cases ek : p.1 = k
      · have : k ≠ s := fun h => e (ek.trans h)
        simp [ek, this]
      · simp [ek]
theorem lkT_del (L : Tb) {s k : ByteArray} (h : k ≠ s) (z : Value) : lkT (delT L s) k z = lkT L k z := by
  induction L with
  | nil => rfl
  | cons p r ih =>
    unfold delT at ih ⊢
    rw [List.filter_cons]
    by_cases e : p.1 = s
    · rw [if_neg (by simp [e]), ih, lkT, if_neg (fun e' => h (e'.symm.trans e))]
    · rw [if_pos (by simp [e]), lkT, lkT, ih]
theorem hasT_set (L : Tb) (s k : ByteArray) (v : Value) : hasT (setT L s v) k = (hasT L k || decide (k = s)) := by
  unfold setT
  rw [hasT_append, hasT_del]
  by_cases e : k = s
  · subst e; simp [hasT]
  · have : ¬ s = k := fun h => e h.symm
    simp [hasT, e, this]
theorem lkT_set (L : Tb) (s k : ByteArray) (v z : Value) : lkT (setT L s v) k z = if k = s then v else lkT L k z := by
  unfold setT
  rw [lkT_append, hasT_del]
  by_cases e : k = s
  · subst e; simp [lkT]
  · rw [if_neg e, lkT_del L e]
    cases h : hasT L k
    · have hs : ¬ s = k := fun h => e h.symm
      simp [lkT, hs, lkT_not h]
    · simp [e]
theorem Uq.del {L : Tb} (h : Uq L) (s : ByteArray) : Uq (delT L s) := List.Pairwise.filter _ h
theorem Uq.set {L : Tb} (h : Uq L) (s : ByteArray) (v : Value) : Uq (setT L s v) := by
  refine List.pairwise_append.2 ⟨h.del s, List.pairwise_singleton _ _, fun p hp q hq => ?_⟩
  rw [List.mem_singleton] at hq
  subst hq
  have := (List.mem_filter.1 hp).2
  simpa using this
theorem hasT_mem {L : Tb} {s : ByteArray} : hasT L s = true ↔ ∃ p ∈ L, p.1 = s := by simp [hasT]
theorem del_len {L : Tb} (h : Uq L) (s : ByteArray) : (delT L s).length + (if hasT L s = true then 1 else 0) = L.length := by
  induction L with
  | nil => rfl
  | cons p r ih =>
    obtain ⟨h1, h2⟩ := List.pairwise_cons.1 h
    have ih := ih h2
    unfold delT at ih ⊢
    rw [List.filter_cons]
    by_cases e : p.1 = s
    · have hn : hasT r s = false := by
        rw [Bool.eq_false_iff]; intro hh
        obtain ⟨q, hq, eq⟩ := hasT_mem.1 hh
        exact h1 q hq (e.trans eq.symm)
      rw [hn] at ih
      rw [if_neg (by simp [e]), if_pos (by simp [hasT, e])]
      simp only [Bool.false_eq_true, if_false, Nat.add_zero] at ih
      rw [ih]; rfl
    · rw [if_pos (by simp [e])]
      have : hasT (p :: r) s = hasT r s := by simp [hasT, e]
      rw [this, List.length_cons, List.length_cons]; omega
theorem set_len {L : Tb} (h : Uq L) (s : ByteArray) (v : Value) : (setT L s v).length = if hasT L s = true then L.length else L.length + 1 := by
  have := del_len h s
  unfold setT
  rw [List.length_append, List.length_singleton]
  split at this <;> rename_i hh <;> simp only [hh] <;> simp <;> omega
/-- Two lists tell the same. -/
def Al (L M : Tb) : Prop := ∀ s, hasT L s = hasT M s ∧ ∀ z, lkT L s z = lkT M s z
theorem Al.refl (L : Tb) : Al L L := fun s => ⟨rfl, fun z => rfl⟩
theorem Al.symm {L M : Tb} (h : Al L M) : Al M L := fun s => ⟨(h s).1.symm, fun z => ((h s).2 z).symm⟩
theorem Al.trans {L M K : Tb} (h : Al L M) (k : Al M K) : Al L K := fun s => ⟨(h s).1.trans (k s).1, fun z => ((h s).2 z).trans ((k s).2 z)⟩
theorem Al.set {L M : Tb} (h : Al L M) (s : ByteArray) (v : Value) : Al (setT L s v) (setT M s v) := fun k => ⟨by rw [hasT_set, hasT_set, (h k).1], fun z => by rw [lkT_set, lkT_set, (h k).2]⟩
theorem Al.len : ∀ {L M : Tb}, Uq L → Uq M → Al L M → L.length = M.length
  | [], [], _, _, _ => rfl
  | [], q :: s, _, _, h => by have := (h q.1).1; simp [hasT] at this
  | p :: r, M, hL, hM, h => by
    obtain ⟨h1, h2⟩ := List.pairwise_cons.1 hL
    have hp : hasT M p.1 = true := by rw [← (h p.1).1]; simp [hasT]
    have hn : hasT r p.1 = false := by
      rw [Bool.eq_false_iff]; intro hh
      obtain ⟨q, hq, eq⟩ := hasT_mem.1 hh
      exact h1 q hq eq.symm
    have := Al.len h2 (hM.del p.1) (fun s => by
      by_cases e : s = p.1
      · subst e
        refine ⟨by rw [hn, hasT_del]; simp, fun z => ?_⟩
        rw [lkT_not hn, lkT_not (by rw [hasT_del]; simp)]
      · have e' : ¬ p.1 = s := fun h => e h.symm
        have hs := h s
        refine ⟨by rw [hasT_del, ← hs.1]; simp [hasT, e, e'], fun z => ?_⟩
        rw [lkT_del _ e, ← hs.2 z, lkT, if_neg e'])
    have hd := del_len hM p.1
    rw [if_pos hp] at hd
    rw [List.length_cons, this]; omega

/-! ### the map -/
abbrev KT : TypeId := 9
theorem lawS : Keyed Try.prog KT := Maps.string_keyed Try.underlying9
/-- Every element reads as itself. -/
def hR (v : Value) : Option (DataW Value × List MemPlace) := some (.held v, [])
def kS (s : ByteArray) : Lit := .string s.data.toList
theorem kS_of {s : ByteArray} (h : s.size ≤ maxLen) : keyOf Try.prog KT (.string s) = some (kS s)   := Go.WideMaps.keyOf_string_mk Try.underlying9 h
theorem kS_key (s : ByteArray) : WideAt.IsKeyLit (kS s) := trivial
theorem kS_inj {s t : ByteArray} (h : kS s = kS t) : s = t := by
  unfold kS at h
  injection h with h
  have : s.data = t.data := by rw [← Array.toArray_toList (xs := s.data), h, Array.toArray_toList]
  cases s; cases t; simp only at this; rw [this]
/-- Block b is a map of texts that has what the list L tells. -/
def SM (w : World) (b : Nat) (L : Tb) : Prop :=
  ∃ D : DataW Value, w.ownsMap Try.prog KT hR b L.length D ∧ (∀ s : ByteArray, s.size ≤ maxLen → Maps.has D (kS s) = hasT L s ∧ ∀ z, D.atKey (kS s) (.held z) = .held (lkT L s z)) ∧ Maps.size D = L.length ∧ Uq L
theorem SM.uq {w : World} {b : Nat} {L : Tb} (h : SM w b L) : Uq L := by obtain ⟨D, -, -, -, h⟩ := h; exact h
theorem SM.lt {w : World} {b : Nat} {L : Tb} (h : SM w b L) : b < w.heap.size := by obtain ⟨D, h, -⟩ := h; exact h.lt
theorem SM.made (w : World) : SM (w.alloc (.map #[] 0)) w.heap.size [] :=
  ⟨.map [], World.ownsMap_made _ _ _ _, fun s hs => ⟨rfl, fun z => rfl⟩, rfl, List.Pairwise.nil⟩
theorem SM.block {w w' : World} {b : Nat} {L : Tb} (h : SM w b L) (e : w'.heap[b]? = w.heap[b]?) : SM w' b L := by
  obtain ⟨D, ⟨es, clock, h0, r⟩, h1⟩ := h
  exact ⟨D, ⟨es, clock, e.trans h0, r⟩, h1⟩
theorem SM.below {w w' : World} {b : Nat} {L : Tb} (h : SM w b L) (hb : Below w.heap.size w w') : SM w' b L := h.block (hb.block b h.lt)
theorem SM.kb {w w' : World} {b B : Nat} {L : Tb} (h : SM w b L) (hl : b < B) (hb : Below B w w') : SM w' b L := h.block (hb.block b hl)
theorem SM.grown {w w' : World} {b : Nat} {L : Tb} {row : Option Nat} (h : SM w b L) (hg : w.grownBy w' row) (hne : row ≠ some b) : SM w' b L := h.block (hg.block b h.lt (fun e => hne e.symm))
theorem SM.alike {w : World} {b : Nat} {L M : Tb} (h : SM w b L) (ha : Al L M) (hu : Uq M) : SM w b M := by
  have hl := ha.len h.uq hu
  obtain ⟨D, h0, h1, h2, h3⟩ := h
  exact ⟨D, by rw [← hl]; exact h0, fun s hs => ⟨by rw [(h1 s hs).1, (ha s).1], fun z => by rw [(h1 s hs).2, (ha s).2]⟩, by rw [h2, hl], hu⟩
theorem SM.look {w : World} {b : Nat} {L : Tb} {T E : TypeId} (h : SM w b L) (hT : Try.prog.underlying T = some (.map KT E)) {z : Value} (hz : (zeroValue E).run Try.prog w = .ok z w) {s : ByteArray} (hs : s.size ≤ maxLen) :
    (Instr.lookup T (.map (some b)) (.string s) false).run Try.prog w = .ok (lkT L s z) w := by
  obtain ⟨D, h0, h1, -⟩ := h
  obtain ⟨v, ps, hr, hv⟩ := h0.lookup lawS hT hz (zd := .held z) (zp := []) rfl (kS_of hs)
  rw [(h1 s hs).2] at hv
  simp only [hR, Option.some.injEq, Prod.mk.injEq, DataW.held.injEq] at hv
  rw [← hv.1]
  exact hr
theorem SM.look_ok {w : World} {b : Nat} {L : Tb} {T E : TypeId} (h : SM w b L) (hT : Try.prog.underlying T = some (.map KT E)) {z : Value} (hz : (zeroValue E).run Try.prog w = .ok z w) {s : ByteArray} (hs : s.size ≤ maxLen) :
    (Instr.lookup T (.map (some b)) (.string s) true).run Try.prog w = .ok (.tuple #[lkT L s z, .bool (hasT L s)]) w := by
  obtain ⟨D, h0, h1, -⟩ := h
  obtain ⟨v, ps, hr, hv⟩ := h0.look_ok lawS hT hz (zd := .held z) (zp := []) rfl (kS_of hs)
  rw [(h1 s hs).2] at hv
  simp only [hR, Option.some.injEq, Prod.mk.injEq, DataW.held.injEq] at hv
  rw [← hv.1, ← (h1 s hs).1]
  exact hr
theorem SM.len {w : World} {b : Nat} {L : Tb} {T E : TypeId} (h : SM w b L) (hT : Try.prog.underlying T = some (.map KT E)) (ty : TypeId) :
    (Builtin.len_ #[T] ty #[.map (some b)]).run Try.prog w = .ok (.int .i64 L.length) w := by
  obtain ⟨D, h0, -, h2, -⟩ := h
  rw [← h2]
  exact h0.len hT ty
theorem SM.store {w : World} {b : Nat} {L : Tb} {T E : TypeId} (h : SM w b L) (hT : Try.prog.underlying T = some (.map KT E)) (hn : L.length < maxLen) {s : ByteArray} (hs : s.size ≤ maxLen) (v : Value) :
    ∃ w', (Instr.mapUpdate T (.map (some b)) (.string s) v).run Try.prog w = .ok () w' ∧ SM w' b (setT L s v) ∧ w.grownBy w' (some b) := by
  obtain ⟨D, h0, h1, h2, h3⟩ := h
  obtain ⟨w', hr, h4, h5⟩ := h0.update lawS hT hn (kS_of hs) (val := v) (d := .held v) (ps := []) rfl
  have hD := h0.isMap
  have hti := h0.tidy lawS
  have hsz : Maps.size (D.put (kS s) (.held v)) = (setT L s v).length := by
    rw [Maps.size_put hti, set_len h3, (h1 s hs).1, h2]
  refine ⟨w', hr, ⟨_, ?_, fun k hk => ?_, hsz, h3.set s v⟩, h5⟩
  · obtain ⟨es, clock, hb, F, hle, hd⟩ := h4
    refine ⟨es, clock, hb, F, ?_, hd⟩
    rw [← hsz, hd]
    simp [Maps.size, length_sorted]
  · by_cases e : k = s
    · subst e
      refine ⟨by rw [Maps.has_put_same hD (kS_key k), hasT_set]; simp, fun z => ?_⟩
      rw [Maps.atKey_put_same hD (kS_key k), lkT_set, if_pos rfl]
    · have e' : kS k ≠ kS s := fun h => e (kS_inj h)
      refine ⟨by rw [Maps.has_put_other e', (h1 k hk).1, hasT_set]; simp [e], fun z => ?_⟩
      rw [Maps.atKey_put_other e', (h1 k hk).2, lkT_set, if_neg e]
/-- A map that may be nil. -/
def SMo (w : World) (p : Option Nat) (L : Tb) : Prop := (p = none ∧ L = []) ∨ ∃ b, p = some b ∧ SM w b L
theorem SMo.uq {w : World} {p : Option Nat} {L : Tb} (h : SMo w p L) : Uq L := by
  rcases h with ⟨-, rfl⟩ | ⟨b, -, h⟩
  · exact List.Pairwise.nil
  · exact h.uq
theorem SMo.below {w w' : World} {p : Option Nat} {L : Tb} (h : SMo w p L) (hb : Below w.heap.size w w') : SMo w' p L := by
  rcases h with h | ⟨b, e, h⟩
  · exact .inl h
  · exact .inr ⟨b, e, h.below hb⟩
theorem SMo.kb {w w' : World} {p : Option Nat} {B : Nat} {L : Tb} (h : SMo w p L) (hl : ∀ b, p = some b → b < B) (hb : Below B w w') : SMo w' p L := by
  rcases h with h | ⟨b, e, h⟩
  · exact .inl h
  · exact .inr ⟨b, e, h.kb (hl b e) hb⟩
theorem SMo.lt {w : World} {p : Option Nat} {L : Tb} (h : SMo w p L) : ∀ b, p = some b → b < w.heap.size := by
  rcases h with ⟨rfl, -⟩ | ⟨b, rfl, h⟩
  · intro b hb; cases hb
  · intro b' hb; cases hb; exact h.lt
theorem SMo.look {w : World} {p : Option Nat} {L : Tb} {T E : TypeId} (h : SMo w p L) (hT : Try.prog.underlying T = some (.map KT E)) {z : Value} (hz : (zeroValue E).run Try.prog w = .ok z w) {s : ByteArray} (hs : s.size ≤ maxLen) :
    (Instr.lookup T (.map p) (.string s) false).run Try.prog w = .ok (lkT L s z) w := by
  rcases h with ⟨rfl, rfl⟩ | ⟨b, rfl, h⟩
  · exact Maps.look_nil false lawS hT hz (kS_of hs)
  · exact h.look hT hz hs
theorem SMo.look_ok {w : World} {p : Option Nat} {L : Tb} {T E : TypeId} (h : SMo w p L) (hT : Try.prog.underlying T = some (.map KT E)) {z : Value} (hz : (zeroValue E).run Try.prog w = .ok z w) {s : ByteArray} (hs : s.size ≤ maxLen) :
    (Instr.lookup T (.map p) (.string s) true).run Try.prog w = .ok (.tuple #[lkT L s z, .bool (hasT L s)]) w := by
  rcases h with ⟨rfl, rfl⟩ | ⟨b, rfl, h⟩
  · exact Maps.look_nil true lawS hT hz (kS_of hs)
  · exact h.look_ok hT hz hs
theorem SMo.len {w : World} {p : Option Nat} {L : Tb} {T E : TypeId} (h : SMo w p L) (hT : Try.prog.underlying T = some (.map KT E)) (ty : TypeId) :
    (Builtin.len_ #[T] ty #[.map p]).run Try.prog w = .ok (.int .i64 L.length) w := by
  rcases h with ⟨rfl, rfl⟩ | ⟨b, rfl, h⟩
  · exact Maps.len_nil hT ty
  · exact h.len hT ty
/-- An empty map into which a map is copied has what that has. -/
theorem merge_empty {D : DataW Value} (h : Maps.Canon D) (hk : Maps.CanonK (Maps.KeysOf Try.prog KT) D) : Lib.mergeD (.map []) D = D :=
  (Maps.merged_eq lawS.one (left := fun _ => false) ⟨fun k => by simp [Maps.has], fun k z => by
    by_cases hh : Maps.has D k = true
    · simp [hh]
    · have e : Maps.has D k = false := by simpa using hh
      rw [Maps.atKey_of_not_has e]
      simp [e]
      rfl⟩ (fun _ => rfl) h ⟨[], rfl, List.Pairwise.nil, fun p hp => by cases hp⟩ hk).symm

end Go.Proofs.Ytaeldoipflcknaa
