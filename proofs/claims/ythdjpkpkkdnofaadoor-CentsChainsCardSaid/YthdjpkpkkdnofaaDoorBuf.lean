/-
  What is proved: laws on a slice of bytes that lies in a block of the call's own, whatever mark that block bears behind its last cell (as the one that a conversion of a string makes): what an append of bytes to it comes to, and the conversions to and from a string. Conditions: the lengths stay below 2^47.
-/
import Derived.WalkKit
import Derived.WalkSpells
import Derived.WalkLawsBesides
import Derived.Deep.AppendSrc
import Derived.Deep.Upon
import Derived.Lib.UnsafeStr
import Derived.Lib.AppendZeros
import Derived.Lib.Hide
import Derived.Laws.IdiomStrings
namespace Go.Proofs.YthdjpkpkkdnofaaDoor
open Go Go.RowKit

/-- The value v is a slice of the bytes l, in a block from B on; all the cells of its array are there, and none is frozen. -/
def Buf (B : Nat) (w : World) (v : Value) (l : List UInt8) : Prop :=
  ∃ g cap, v = .slice (some ⟨g, 0, none⟩) l.length cap ∧ B ≤ g ∧ g < w.heap.size ∧ l.length ≤ cap ∧ cap ≤ maxLen ∧
    (∀ j (_ : j < l.length), w.cell? ⟨g, j, none⟩ = some (.int .u8 (l[j].toNat : Int))) ∧
    (∀ j, j < cap → (w.cell? ⟨g, j, none⟩).isSome = true ∧ w.frozen? ⟨g, j, none⟩ = false)

theorem Buf.below {B C : Nat} {w w' : World} {v : Value} {l : List UInt8} (h : Buf B w v l) (hb : Below C w w') (hC : w.heap.size ≤ C) : Buf B w' v l := by
  obtain ⟨g, cap, rfl, h1, h2, h3, h4, h5, h6⟩ := h
  refine ⟨g, cap, rfl, h1, Nat.lt_of_lt_of_le h2 hb.size, h3, h4, fun j hj => ?_, fun j hj => ⟨?_, ?_⟩⟩
  · rw [hb.cell (p := ⟨g, j, none⟩) (by show g < C; omega)]; exact h5 j hj
  · rw [hb.cell (p := ⟨g, j, none⟩) (by show g < C; omega)]; exact (h6 j hj).1
  · rw [hb.frozen (p := ⟨g, j, none⟩) (by show g < C; omega)]; exact (h6 j hj).2

theorem Buf.alloc {B : Nat} {w : World} {v : Value} {l : List UInt8} (h : Buf B w v l) (o : Obj) : Buf B (w.alloc o) v l :=
  h.below ((Below.refl w.heap.size w).alloc (Nat.le_refl _) o) (Nat.le_refl _)

theorem Buf.drew {B : Nat} {w : World} {v : Value} {l : List UInt8} (h : Buf B w v l) : Buf B w.drew v l := h

theorem addr_add (g j : Nat) : (⟨g, 0, none⟩ : Addr).add j = ⟨g, j, none⟩ := by unfold Addr.add; split <;> simp_all

/-- What a conversion of a string leaves. -/
theorem buf_of_string (w : World) (s : ByteArray) (e : TypeId) (l : List UInt8) (hl : l = s.data.toList) (hs : s.size ≤ maxLen) (B : Nat) (hB : B ≤ w.heap.size) :
    Buf B (w.drew.alloc (.cells (bytesRow s (grownCap w s.size 0 e)) e ((bytesRow s (grownCap w s.size 0 e)).size, (bytesRow s (grownCap w s.size 0 e)).size + 1)))
      (.slice (some ⟨w.heap.size, 0, none⟩) s.size (grownCap w s.size 0 e)) l := by
  have hge := grownCap_ge w s.size 0 e
  have hcm : grownCap w s.size 0 e ≤ maxLen := grownCap_le_maxLen w s.size 0 e hs
  generalize grownCap w s.size 0 e = cap at hge hcm
  have hln : l.length = s.size := by rw [hl, Array.length_toList]; rfl
  have hsz : (bytesRow s cap).size = cap := by
    simp only [bytesRow, Array.size_append, Array.size_map, Array.size_replicate]
    show s.size + (cap - s.size) = cap
    omega
  refine ⟨w.heap.size, cap, by rw [hln], hB, by simp, by omega, hcm, fun j hj => ?_, fun j hj => ⟨?_, ?_⟩⟩
  · rw [show w.heap.size = w.drew.heap.size from rfl, World.cell?_alloc_mark]
    rw [bytesRow_at s cap j (by have : s.data.size = s.size := rfl; omega)]
    subst hl
    simp
  · rw [show w.heap.size = w.drew.heap.size from rfl, World.cell?_alloc_mark]
    rw [Array.getElem?_eq_getElem (by omega)]; rfl
  · rw [show w.heap.size = w.drew.heap.size from rfl, World.frozen?_alloc_mark, hsz]
    simp only [Bool.and_eq_false_iff, decide_eq_false_iff_not]; omega

/-- An append of bytes to such a slice. -/
theorem run_append_buf {P : Program} (t tx ty e : TypeId) (i : TypeInfo) (ht : P.underlying t = some (.slice e)) (hi : P.info? e = some i) (hz : i.zero = some (.int .u8 0)) (hs1 : i.size = 1) (hb1 : i.bytes = 1)
    (B : Nat) (w : World) (v : Value) (l : List UInt8) (h : Buf B w v l) (hB : B ≤ w.heap.size) (x : Value) (news : List UInt8) (hs : Src P 1 tx x news.length (Lib.byteCells news) w) (hlim : l.length + news.length ≤ 140737488355328) :
    ∃ v' w', (Builtin.append_ #[t, tx] ty #[v, x]).run P w = .ok v' w' ∧ Buf B w' v' (l ++ news) ∧ Below B w w' := by
  obtain ⟨g, cap, rfl, h1, h2, h3, h4, h5, h6⟩ := h
  have hbl : (Lib.byteCells news).length = news.length := by simp [Lib.byteCells]
  by_cases hroom : l.length + news.length ≤ cap
  · have hr := run_append_room_src (P := P) w t tx ty e i ht hi g 0 l.length cap x news.length (Lib.byteCells news) (by rw [hs1]; exact hs) hroom
      (fun j hj => by rw [hs1]; rw [show 0 + l.length * 1 + j = l.length + j by omega]; exact (h6 _ (by omega)).1)
      (fun j hj => by rw [hs1]; rw [show 0 + l.length * 1 + j = l.length + j by omega]; exact (h6 _ (by omega)).2)
    rw [hs1, show 0 + l.length * 1 = l.length by omega] at hr
    refine ⟨_, _, hr, ⟨g, cap, by rw [List.length_append], h1, ?_, by rw [List.length_append]; omega, h4, fun j hj => ?_, fun j hj => ⟨?_, ?_⟩⟩, ?_⟩
    · have := (World.keptBut_setCells g (may := fun _ => True) (Lib.byteCells news) l.length w (fun _ _ => trivial)).size
      omega
    · by_cases hjl : j < l.length
      · rw [World.cell?_setCells_out g _ _ _ _ (fun _ _ => Or.inl hjl), h5 j hjl, List.getElem_append_left hjl]
      · have hjn : j - l.length < news.length := by rw [List.length_append] at hj; omega
        have hin := World.cell?_setCells_in g (Lib.byteCells news) l.length w (fun k hk => (h6 _ (by omega)).1) (j - l.length) (by omega)
        rw [show l.length + (j - l.length) = j by omega] at hin
        rw [hin, List.getElem_append_right (by omega)]
        simp [Lib.byteCells]
    · by_cases hjl : j < l.length ∨ l.length + news.length ≤ j
      · rw [World.cell?_setCells_out g _ _ _ _ (fun _ _ => by show j < l.length ∨ l.length + (Lib.byteCells news).length ≤ j; rw [hbl]; exact hjl)]
        exact (h6 j hj).1
      · have hin := World.cell?_setCells_in g (Lib.byteCells news) l.length w (fun k hk => (h6 _ (by omega)).1) (j - l.length) (by omega)
        rw [show l.length + (j - l.length) = j by omega] at hin
        rw [hin]; rfl
    · rw [World.frozen?_setCells]; exact (h6 j hj).2
    · have hk := World.keptBut_setCells g (may := fun p => p.block = g) (Lib.byteCells news) l.length w (fun _ _ => rfl)
      refine ⟨hk.1, ?_, hk.2.1, hk.size, fun k hkB => World.heap_setCells_other w g _ _ (by omega) (by omega)⟩
      generalize Lib.byteCells news = vs
      clear hr hs hbl hk
      generalize l.length = o
      clear h3 h5 h6 hroom hlim
      induction vs generalizing o w with
      | nil => rfl
      | cons a r ih =>
        show ((w.setCell ⟨g, o, none⟩ a).setCells g (o + 1) r).tape = w.tape
        have hsz : (w.setCell ⟨g, o, none⟩ a).heap.size = w.heap.size := by simp [World.setCell]
        rw [ih (w.setCell ⟨g, o, none⟩ a) (by omega) (by omega)]
        rfl
  · have hold : (Builtin.firstCells i.size l.length (.slice (some ⟨g, 0, none⟩) l.length cap)).run P w.drew = .ok (Lib.byteCells l).toArray w.drew := by
      refine run_firstCells_some w.drew i.size l.length ⟨g, 0, none⟩ l.length cap (Lib.byteCells l) (by rw [hs1]; simp [Lib.byteCells]) ?_
      intro j u hj
      have hjl : j < l.length := by
        have := (List.getElem?_eq_some_iff.1 hj).1
        simpa [Lib.byteCells] using this
      rw [addr_add]
      show w.cell? ⟨g, j, none⟩ = some u
      rw [h5 j hjl, ← hj]
      simp [Lib.byteCells, hjl]
    have hr := run_append_grow_src (P := P) w t tx ty e i (.int .u8 0) ht hi hz (some ⟨g, 0, none⟩) l.length cap (Lib.byteCells l) hold x news.length (Lib.byteCells news) (by rw [hs1]; exact hs) (by omega) (by omega) (growslice_fits (by omega) (by rw [hb1]; omega))
    have hge := grownCap_ge w (l.length + news.length) cap e
    have hcm : grownCap w (l.length + news.length) cap e ≤ maxLen := grownCap_le_maxLen w _ cap e (by unfold maxLen; omega)
    generalize grownCap w (l.length + news.length) cap e = cap' at hr hge hcm
    have hzs : (Builtin.zeroCells (Value.int .u8 0).cells (cap' - (l.length + news.length))).size = cap' - (l.length + news.length) := by rw [size_zeroCells]; simp [Value.cells]
    have hcs : ((Lib.byteCells l ++ Lib.byteCells news).toArray ++ Builtin.zeroCells (Value.int .u8 0).cells (cap' - (l.length + news.length))).size = cap' := by
      rw [Array.size_append, hzs]; simp [Lib.byteCells]; omega
    refine ⟨_, _, hr, ⟨w.heap.size, cap', by rw [List.length_append], hB, by simp, by rw [List.length_append]; omega, hcm, fun j hj => ?_, fun j hj => ⟨?_, ?_⟩⟩, (Below.refl B w).drew.alloc hB _⟩
    · rw [show w.heap.size = w.drew.heap.size from rfl, World.cell?_alloc_new, Array.getElem?_append_left (by simp only [List.size_toArray, List.length_append, Lib.byteCells, List.length_map]; rw [List.length_append] at hj; exact hj)]
      have e1 : Lib.byteCells l ++ Lib.byteCells news = Lib.byteCells (l ++ news) := by simp [Lib.byteCells]
      rw [e1]
      simp only [Lib.byteCells, List.getElem?_toArray, List.getElem?_map]
      rw [List.getElem?_eq_getElem hj]; rfl
    · rw [show w.heap.size = w.drew.heap.size from rfl, World.cell?_alloc_new, Array.getElem?_eq_getElem (by omega)]; rfl
    · rw [show w.heap.size = w.drew.heap.size from rfl, World.frozen?_alloc_new]

/-- The operation, for a walk. -/
theorem wpList_append_buf {P : Program} {ops : Array Oper} {rest : List Oper} {o : Oper} {a : Act} {Q : Exit → Act → World → Prop} (hgd : o.guard = none) (s x : Operand) (t tx : TypeId)
    (ho : o.op = .call { callee := .builtin .append, args := #[s, x], argTypes := #[t, tx] }) (e : TypeId) (i : TypeInfo) (ht : P.underlying t = some (.slice e)) (hi : P.info? e = some i) (hz : i.zero = some (.int .u8 0)) (hs1 : i.size = 1) (hb1 : i.bytes = 1)
    (B : Nat) (w : World) (v : Value) (l : List UInt8) (hv : a.eval s = v) (h : Buf B w v l) (hB : B ≤ w.heap.size) (xv : Value) (hx : a.eval x = xv) (news : List UInt8) (hs : Src P 1 tx xv news.length (Lib.byteCells news) w) (hlim : l.length + news.length ≤ 140737488355328)
    (hK : ∀ v' w', Buf B w' v' (l ++ news) → Below B w w' → wpList P ops Q rest (a.put o.dst v') w') : wpList P ops Q (o :: rest) a w := by
  obtain ⟨v', w', hr, h1, h2⟩ := run_append_buf t tx o.type e i ht hi hz hs1 hb1 B w v l h hB xv news hs hlim
  exact Lib.wpList_append_run w hgd s x t tx ho v xv hv hx v' w' hr (hK v' w' h1 h2)

/-- Back to a string. -/
theorem run_string_buf {P : Program} (w : World) (src dst e : TypeId) (hs : P.underlying src = some (.slice e)) (he : P.underlying e = some (.int .u8)) (hd : P.underlying dst = some .string) (B : Nat) (v : Value) (l : List UInt8) (h : Buf B w v l) :
    (convert src dst v).run P w = .ok (.string ⟨l.toArray⟩) w := by
  obtain ⟨g, cap, rfl, -, -, -, -, h5, -⟩ := h
  exact run_convert_bytes_back w src dst e ⟨g, 0, none⟩ cap l hs he hd (fun j hj => by rw [addr_add]; exact h5 j hj)

end Go.Proofs.YthdjpkpkkdnofaaDoor
