/-
  What is proved: the contracts of the document's own At, Set and Same, and of before's withItem. Conditions: items lie in memory as the contract says.
-/
import Derived.Test.YtaeldoipflcknaaBfM
import Derived.Deep.QuietTactic
import Derived.BigQuiet
import Derived.Laws.StructEq
import Derived.Deep.DeepCutAuto
namespace Go.Proofs.Ytaeldoipflcknaa
open Go Go.RowKit Go.Lib Go.Proofs
set_option linter.unusedVariables false

/-- Items in memory, by a list. -/
def ItLs (w : World) (p : Option Addr) (L : Ti) : Prop := ItIn w p L.length (fun j => L.getD j d0)
theorem ItLs.below {w w' : World} {p : Option Addr} {L : Ti} (h : ItLs w p L) (hb : Below w.heap.size w w') : ItLs w' p L := ItIn.below h hb
theorem ItLs.kb {w w' : World} {p : Option Addr} {L : Ti} {B : Nat} (h : ItLs w p L) (hB : w.heap.size ≤ B) (hb : Below B w w') : ItLs w' p L := ItIn.kb h hB hb
theorem OwnI.ls {w : World} {base : Nat} {E : TypeId} {v : Value} {L : Ti} (h : OwnI w base E v L) : ∃ p c, v = .slice p L.length c ∧ ItLs w p L := h.items
theorem infoItem : (Try.prog.info? 43).map (fun i => (i.zero, i.size, i.bytes)) = some (some (.agg #[.string ⟨#[]⟩, .int .i64 0]), 2, 24) := by kernel_rfl
theorem infoTaken : (Try.prog.info? 60).map (fun i => (i.zero, i.size, i.bytes)) = some (some (.agg #[.string ⟨#[]⟩, .int .i64 0]), 2, 24) := by kernel_rfl

theorem ne_list {x y : ByteArray} (h : x ≠ y) : (x.toList == y.toList) = false := by
  rw [beq_eq_false_iff_ne]
  intro e
  rw [ByteArray.toList_eq, ByteArray.toList_eq] at e
  apply h
  have : x.data = y.data := by rw [← Array.toArray_toList (xs := x.data), e, Array.toArray_toList]
  cases x; cases y; simp only at this; rw [this]

set_option maxHeartbeats 1000000 in
theorem at_any (p : Option Addr) (cp : Nat) (L : Ti) (s : ByteArray) (w : World) (hn : L.length ≤ 4611686018427387904) (h : ItLs w p L) :
    Calls Try.prog 18 #[.slice p L.length cp, .string s] w fun e w' => e = .returned (.int .i64 (atI L s)) ∧ w = w' := by
  have HI := Lib.hid h
  clear h
  go_enter Try.func18, Try.ntmps18
  go_wp2
  go_loop [5] (fun i => ∃ k : Nat, k ≤ L.length ∧ i = .int .i64 k ∧ Hid (hasI (L.take k) s = false)) (fun i => L.length - (RowKit.intOf i).toNat)
  case atStart => exact ⟨0, Nat.zero_le _, rfl, Lib.hid rfl⟩
  case round =>
    obtain ⟨k, hk, rfl, HA⟩ := hrel
    by_cases hlt : k < L.length
    · obtain ⟨b, o, rfl, hb, c0, c1⟩ := ItIn.at HI.out hlt
      have HH := Lib.hid (fun h => at_hit hlt HA.out (s := s) h)
      have HM := Lib.hid (fun h => has_miss hlt HA.out (s := s) h)
      generalize L.getD k d0 = x at c0 c1 HH HM
      obtain ⟨x1, x2⟩ := x
      dsimp only at c0 c1 HH HM
      have i1 : (k : Int) < (L.length : Int) := by omega
      by_cases e : x1 = s
      · subst e
        have HV := Lib.hid (HH.out rfl)
        clear HH HM
        go_wp2
        go_ret
        exact ⟨by rw [HV.out]; rfl, rfl⟩
      · have HV := Lib.hid (HM.out e)
        have d1 := ne_list e
        clear HH HM
        go_wp2
        exact ⟨⟨k + 1, by omega, by go_num, HV⟩, by simp [RowKit.intOf]; omega⟩
    · obtain rfl : k = L.length := by omega
      have HV : Hid (atI L s = 0) := Lib.hid (atI_not (by have := HA.out; rwa [List.take_length] at this))
      clear HA
      go_wp2
      go_ret
      exact ⟨by rw [HV.out]; rfl, rfl⟩

set_option maxHeartbeats 2000000 in
theorem set_any (p : Option Addr) (cp : Nat) (L : Ti) (s : ByteArray) (c : Int) (w : World) (hn : L.length ≤ 100000) (h : ItLs w p L) :
    Calls Try.prog 32 #[.slice p L.length cp, .string s, .int .i64 c] w fun e w' => ∃ v, e = .returned v ∧ OwnI w' w.heap.size 60 v (setI L s c) ∧ Below w.heap.size w w' := by
  have HI := Lib.hid h
  clear h
  go_enter Try.func32, Try.ntmps32
  go_wp2
  go_loopw [7, 8] (fun v i wr => ∃ k : Nat, k ≤ L.length ∧ i = .int .i64 k ∧ Hid (OwnI wr w.heap.size 60 v (delI (L.take k) s)) ∧ Hid (Below w.heap.size w wr)) (fun _ i _ => L.length - (RowKit.intOf i).toNat)
  case atStart => exact ⟨0, Nat.zero_le _, rfl, Lib.hid (OwnI.nil _ _ _), Lib.hid (Below.refl _ _)⟩
  case round =>
    obtain ⟨k, hk, rfl, HO, HB⟩ := hrel
    by_cases hlt : k < L.length
    · obtain ⟨b, o, rfl, hb, c0, c1⟩ := ItIn.at HI.out hlt
      replace c0 := (HB.out.cell (p := ⟨b, o + k * 2, none⟩) hb).trans c0
      replace c1 := (HB.out.cell (p := ⟨b, o + k * 2 + 1, none⟩) hb).trans c1
      have HD := Lib.hid (del_at hlt s)
      have hl : (delI (L.take k) s).length ≤ k := by
        unfold delI
        exact Nat.le_trans (List.length_filter_le _ _) (by simp; omega)
      generalize L.getD k d0 = x at c0 c1 HD
      obtain ⟨x1, x2⟩ := x
      dsimp only at c0 c1 HD
      have i1 : (k : Int) < (L.length : Int) := by omega
      by_cases e : x1 = s
      · subst e
        have HV : Hid (delI (L.take (k + 1)) x1 = delI (L.take k) x1) := Lib.hid (by rw [HD.out, if_pos rfl])
        clear HD
        go_wp2
        exact ⟨⟨k + 1, by omega, by go_num, Lib.hid (by rw [HV.out]; exact HO.out), HB⟩, by simp [RowKit.intOf]; omega⟩
      · have HV : Hid (delI (L.take (k + 1)) s = delI (L.take k) s ++ [(x1, x2)]) := Lib.hid (by rw [HD.out, if_neg e])
        have d1 := ne_list e
        clear HD
        go_wp2_with (at_builtin; refine it_arm Try.underlying23 infoTaken HO.out HB.out HB.out.size (by omega) x1 x2 rfl _ _ rfl rfl rfl ?_; intro v' w6 ho hb6 hg6 hv6; have HO6 := Lib.hid ho; have HB6 := Lib.hid hb6; clear ho hb6 hg6 hv6)
        exact ⟨⟨k + 1, by omega, by go_num, Lib.hid (by rw [HV.out]; exact HO6.out), HB6⟩, by simp [RowKit.intOf]; omega⟩
    · obtain rfl : k = L.length := by omega
      have HL : Hid (delI (L.take L.length) s = delI L s) := Lib.hid (by rw [List.take_length])
      have hl : (delI (L.take L.length) s).length ≤ L.length := by
        unfold delI
        exact Nat.le_trans (List.length_filter_le _ _) (by simp)
      go_wp2_with (at_builtin; refine it_arm Try.underlying23 infoTaken HO.out HB.out HB.out.size (by omega) s c rfl _ _ rfl rfl rfl ?_; intro v' w6 ho hb6 hg6 hv6; have HO6 := Lib.hid ho; have HB6 := Lib.hid hb6; clear ho hb6 hg6 hv6)
      go_ret
      exact ⟨_, rfl, by have := HO6.out; rw [HL.out] at this; exact this, HB6.out⟩

set_option maxHeartbeats 2000000 in
theorem withItem_any (B : Nat) (w0 : World) (v : Value) (L : Ti) (s : ByteArray) (c : Int) (w : World) (hn : L.length ≤ 100000) (h : OwnI w B 43 v L) (hb : Below B w0 w) (hB : B ≤ w.heap.size) :
    Calls Try.prog 28 #[v, .string s, .int .i64 c] w fun e w' => ∃ v', e = .returned v' ∧ OwnI w' B 43 v' (if c = 0 then L else L ++ [(s, c)]) ∧ Below B w0 w' ∧ w.grownBy w' v.ownBlock := by
  by_cases e : c = 0
  · subst e
    rw [if_pos rfl]
    go_enter Try.func28, Try.ntmps28
    go_wp2
    go_ret
    exact ⟨_, rfl, h, hb, ⟨rfl, rfl, rfl, Nat.le_refl _, fun _ _ _ => rfl⟩⟩
  · rw [if_neg e]
    have d1 : (c == 0) = false := beq_eq_false_iff_ne.2 e
    have HO := Lib.hid h
    clear h
    have hal := World.grownBy_alloc w (.cells #[.string s, .int .i64 c] 43) v.ownBlock
    go_enter Try.func28, Try.ntmps28
    go_wp2_with (at_builtin; refine it_arm Try.underlying24 infoItem HO.out hb hB (by omega) s c rfl _ _ rfl rfl rfl ?_; intro v' w6 ho hb6 hg6 hv6; have HO6 := Lib.hid ho; have HB6 := Lib.hid hb6; have HG6 := Lib.hid (World.grownBy.trans hal hg6); clear ho hb6 hg6 hv6)
    go_ret
    exact ⟨_, rfl, HO6.out, HB6.out, HG6.out⟩

theorem same_at {A B : Ti} {k : Nat} (ha : k < A.length) (hb : k < B.length) (h : A.take k = B.take k) (e : A.getD k d0 = B.getD k d0) : A.take (k + 1) = B.take (k + 1) := by
  rw [take_at A d0 ha, take_at B d0 hb, h, e]
theorem stoodItem : Try.prog.stoodInHeld 43 = false := by kernel_rfl
theorem guardItem : Try.prog.eqGuardType Try.prog.depth 43 = false := by kernel_rfl
theorem fieldsItem' : (Try.prog.fieldsOf 43).toList.map (fun f => (f.name, f.type, f.offset)) = [("Code", 9, 0), ("Cents", 22, 1)] := by kernel_rfl
theorem fieldsItem : ∃ f g, (Try.prog.fieldsOf 43).toList = [f, g] ∧ f.name = "Code" ∧ f.type = 9 ∧ f.offset = 0 ∧ g.name = "Cents" ∧ g.type = 22 ∧ g.offset = 1 := by
  obtain ⟨f, l, h1, h2, h3⟩ := List.map_eq_cons_iff.1 fieldsItem'
  obtain ⟨g, l2, rfl, h4, h5⟩ := List.map_eq_cons_iff.1 h3
  obtain rfl := List.map_eq_nil_iff.1 h5
  injection h2 with a1 a2
  injection a2 with a2 a3
  injection h4 with b1 b2
  injection b2 with b2 b3
  exact ⟨f, g, h1, a1, a2, a3, b1, b2, b3⟩
theorem structItem : Try.prog.underlying 43 = some (.struct (Try.prog.fieldsOf 43)) := by kernel_rfl
theorem neqItem (x x' : ByteArray) (y y' : Int) (W : World) : (binOp .neq 43 (.agg #[.string x, .int .i64 y]) (.agg #[.string x', .int .i64 y'])).run Try.prog W = .ok (.bool (!(x.toList == x'.toList && y == y'))) W := by
  rw [run_neq_struct, run_equalIn_agg W 9999 _ _ _ structItem stoodItem]
  obtain ⟨f, g, hfg, f1, f2, f3, g1, g2, g3⟩ := fieldsItem
  rw [hfg]
  have hu := Try.underlying22
  have hs := Try.underlying9
  cases h1 : (x.toList == x'.toList) <;> cases h2 : (y == y') <;> simp [Op.eqFields, f1, f2, f3, g1, g2, g3, go_sem, part, hu, hs, h1, h2]
set_option maxHeartbeats 2000000 in
set_option maxRecDepth 100000 in
theorem same_any (p q : Option Addr) (cp cq : Nat) (A B : Ti) (w : World) (ha : A.length ≤ 100000) (hb : B.length ≤ 100000) (h1 : ItLs w p A) (h2 : ItLs w q B) :
    Calls Try.prog 15 #[.slice p A.length cp, .slice q B.length cq] w fun e w' => e = .returned (.bool (decide (A = B))) ∧ Below w.heap.size w w' := by
  have H1 := Lib.hid h1
  have H2 := Lib.hid h2
  clear h1 h2
  by_cases hl : A.length = B.length
  case neg =>
    have d1 : ((A.length : Int) == (B.length : Int)) = false := beq_eq_false_iff_ne.2 (by omega)
    have hv : decide (A = B) = false := decide_eq_false (fun e => hl (by rw [e]))
    go_enter Try.func15, Try.ntmps15
    go_wp2
    go_ret
    exact ⟨by rw [hv]; rfl, Below.refl _ _⟩
  case pos =>
  have HL := Lib.hid hl
  rw [← hl]
  clear hl hb
  go_enter Try.func15, Try.ntmps15
  go_wp2
  go_loopw [5] (fun i wr => ∃ k : Nat, k ≤ A.length ∧ i = .int .i64 k ∧ Hid (A.take k = B.take k) ∧ Below w.heap.size w wr) (fun i _ => A.length - (RowKit.intOf i).toNat)
  case atStart => exact ⟨0, Nat.zero_le _, rfl, Lib.hid rfl, Below.refl _ _⟩
  case round =>
    obtain ⟨k, hk, rfl, HE, HB⟩ := hrel
    by_cases hlt : k < A.length
    · have hlb : k < B.length := by rw [← HL.out]; exact hlt
      obtain ⟨b, o, rfl, hb, c0, c1⟩ := ItIn.at H1.out hlt
      obtain ⟨b2, o2, rfl, hb2, c2, c3⟩ := ItIn.at H2.out hlb
      replace c0 := (HB.cell (p := ⟨b, o + k * 2, none⟩) hb).trans c0
      replace c1 := (HB.cell (p := ⟨b, o + k * 2 + 1, none⟩) hb).trans c1
      replace c2 := (HB.cell (p := ⟨b2, o2 + k * 2, none⟩) hb2).trans c2
      replace c3 := (HB.cell (p := ⟨b2, o2 + k * 2 + 1, none⟩) hb2).trans c3
      have HS := Lib.hid (fun e => same_at hlt hlb HE.out e)
      have HN : Hid (A.getD k d0 ≠ B.getD k d0 → decide (A = B) = false) := Lib.hid (fun e => decide_eq_false (fun h => e (by rw [h])))
      generalize A.getD k d0 = x at c0 c1 HS HN
      generalize B.getD k d0 = y at c2 c3 HS HN
      obtain ⟨x1, x2⟩ := x
      obtain ⟨y1, y2⟩ := y
      dsimp only at c0 c1 c2 c3
      have i1 : (k : Int) < (A.length : Int) := by omega
      have i2 : (0 : Int) ≤ (k : Int) := by omega
      have hgs := guardItem
      clear HE hlb
      by_cases hs : x1 = y1 ∧ x2 = y2
      · obtain ⟨rfl, rfl⟩ := hs
        have HV := Lib.hid (HS.out rfl)
        have hq : ∀ W, (binOp .neq 43 (.agg #[.string x1, .int .i64 x2]) (.agg #[.string x1, .int .i64 x2])).run Try.prog W = .ok (.bool false) W := fun W => by rw [neqItem]; simp
        clear HS HN
        go_wp2
        go_quiet (fail)
        go_wp2
        exact ⟨⟨k + 1, by omega, by go_num, HV, Below.drewsN HB _⟩, by simp [RowKit.intOf]; omega⟩
      · have HV := Lib.hid (HN.out (fun h => hs (by injection h with e1 e2; exact ⟨e1, e2⟩)))
        have hq : ∀ W, (binOp .neq 43 (.agg #[.string x1, .int .i64 x2]) (.agg #[.string y1, .int .i64 y2])).run Try.prog W = .ok (.bool true) W := fun W => by
          rw [neqItem]
          by_cases e1 : x1 = y1
          · have e2 : (x2 == y2) = false := by simp; exact fun e => hs ⟨e1, e⟩
            simp [e2]
          · simp [ne_list e1]
        clear HS HN
        go_wp2
        go_quiet (fail)
        go_wp2
        go_ret
        exact ⟨by rw [HV.out]; rfl, Below.drewsN HB _⟩
    · obtain rfl : k = A.length := by omega
      have HV : Hid (decide (A = B) = true) := Lib.hid (decide_eq_true (by
        have := HE.out
        rw [List.take_length, HL.out, List.take_length] at this
        exact this))
      clear HE
      go_wp2
      go_ret
      exact ⟨by rw [HV.out]; rfl, HB⟩

end Go.Proofs.Ytaeldoipflcknaa
