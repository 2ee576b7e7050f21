/-
  What is proved: texts of other seats, joined for this one: what each theorem says. Conditions: as each says.
-/
import Derived.Test.YtogdiiengbmiiaaDoorTaSpC
import Derived.Deep.RegionHeld3
import Derived.Lib.EndianBits
import Derived.Laws.StructEq
namespace Go.Proofs.YtogdiiengbmiiaaDoor.Sp
open Go Go.RowKit Go.Proofs

theorem ofKeep_any (a b : Bool) (w : World) : Calls Tryd.prog 23 #[.bool a, .bool b] w fun e w' => e = .returned (.bool a) ∧ w = w' := by
  go_enter Tryd.func23, Tryd.ntmps23
  go_wp2
  go_ret
  exact ⟨rfl, rfl⟩
theorem unionKeep_any (a b : Bool) (w : World) : Calls Tryd.prog 32 #[.bool a, .bool b] w fun e w' => e = .returned (.bool (a || b)) ∧ w = w' := by
  cases a
  all_goals
    go_enter Tryd.func32, Tryd.ntmps32
    go_wp2
    go_ret
    exact ⟨rfl, rfl⟩
theorem meetKeep_any (a b : Bool) (w : World) : Calls Tryd.prog 45 #[.bool a, .bool b] w fun e w' => e = .returned (.bool (a && b)) ∧ w = w' := by
  cases a
  all_goals
    go_enter Tryd.func45, Tryd.ntmps45
    go_wp2
    go_ret
    exact ⟨rfl, rfl⟩
theorem minusKeep_any (a b : Bool) (w : World) : Calls Tryd.prog 44 #[.bool a, .bool b] w fun e w' => e = .returned (.bool (a && !b)) ∧ w = w' := by
  cases a <;> cases b
  all_goals
    go_enter Tryd.func44, Tryd.ntmps44
    go_wp2
    go_ret
    exact ⟨rfl, rfl⟩

theorem endsL_in64 {L : List Sp} (h : ∀ s ∈ L, in64 s.1 ∧ in64 s.2) : ∀ e ∈ endsL L, in64 e.1 := fun e he => by
  obtain ⟨s, hs, h1 | h1⟩ := endsL_mem he
  · rw [h1]; exact (h s hs).1
  · rw [h1]; exact (h s hs).2
theorem endsL_bd : ∀ {L : List Sp}, ∀ e ∈ endsL L, -1 ≤ e.2.1 ∧ e.2.1 ≤ 1 ∧ e.2.2 = 0
  | [], e, h => by cases h
  | s :: r, e, h => by
    unfold endsL at h
    rcases List.mem_append.1 h with h | h
    · split at h
      · cases h
      · simp at h
        rcases h with rfl | rfl <;> simp
    · exact endsL_bd e h
theorem many_nil (d : Int) : hasB [] d = false := by simp [hasB, many]

set_option maxHeartbeats 1000000 in
set_option maxRecDepth 100000 in
theorem Of_any (p : Option Addr) (c : Nat) (L : List Sp) (w : World) (hn : L.length ≤ 10000) (h64 : ∀ s ∈ L, in64 s.1 ∧ in64 s.2) (h : SpansIn w p L) :
    Calls Tryd.prog 9 #[.slice p L.length c] w (SetOwn w.heap.size (2 * L.length) (hasB L) w) := by
  have hb0 := (Below.refl w.heap.size w).alloc (Nat.le_refl _) (.cells #[.slice none 0 0] 50)
  have hz0 : (w.alloc (.cells #[.slice none 0 0] 50)).heap.size = w.heap.size + 1 := by simp
  have HE := Lib.hid (leftEnds_any p c L (w.alloc (.cells #[.slice none 0 0] 50)) (by omega) (h.below hb0 (Nat.le_refl _)))
  have hlen := endsL_len L
  have x0 : (w.alloc (.cells #[.slice none 0 0] 50)).cell? ⟨w.heap.size, 0, none⟩ = some (.slice none 0 0) := by rw [World.cell?_alloc_new]; rfl
  have f0 : (w.alloc (.cells #[.slice none 0 0] 50)).frozen? ⟨w.heap.size, 0, none⟩ = false := by simp [World.frozen?_alloc_mark]
  have H64 := Lib.hid h64
  clear h h64
  go_enter Tryd.func9, Tryd.ntmps9
  go_wp2_with fail
  refine (HE.out).mono ?_
  rintro e w1 ⟨v, rfl, ho, hb1⟩
  have hz1 := hb1.size
  have x1 := (hb1.cell (p := ⟨w.heap.size, 0, none⟩) (by show w.heap.size < _; omega)).trans x0
  have f1 := (hb1.frozen (p := ⟨w.heap.size, 0, none⟩) (by show w.heap.size < _; omega)).trans f0
  have hbb := hb0.trans (hb1.mono (by omega))
  have HW := Lib.hid (walk_any (w.alloc (.cells #[.slice none 0 0] 50)).heap.size 23 (fun a _ => a) v (endsL L) L [] w1 (by simp [endsR]) (by omega) rfl (endsL_in64 H64.out) (fun e he => by have := endsL_bd e he; omega) ho hz1 (enters_of Tryd.func23 (by kernel_rfl) rfl) ofKeep_any)
  clear HE hb0 hb1 x0 f0 ho
  go_wp2_with fail
  refine (HW.out).mono ?_
  rintro e w2 ⟨K, q, cq, rfl, hK, hM, h64, hKl, hcq, hqb, hsp, hb2⟩
  have x2 := (hb2.cell (p := ⟨w.heap.size, 0, none⟩) (by show w.heap.size < _; omega)).trans x1
  have f2 := (hb2.frozen (p := ⟨w.heap.size, 0, none⟩) (by show w.heap.size < _; omega)).trans f1
  have hb3 := (hbb.trans (hb2.mono (by omega))).setCell (p := ⟨w.heap.size, 0, none⟩) (Nat.le_refl _) (.slice q K.length cq)
  have hsp3 := hsp.far ⟨w.heap.size, 0, none⟩ (.slice q K.length cq) (fun a ha => by have := (hqb a ha).1; show w.heap.size ≠ a.block; omega)
  have x3 : (w2.setCell ⟨w.heap.size, 0, none⟩ (.slice q K.length cq)).cell? ⟨w.heap.size, 0, none⟩ = some (.slice q K.length cq) := World.cell?_setCell_same _ _ _ x2
  have HR : Hid (Canon K ∧ (∀ d, Mem K d ↔ hasB L d = true) ∧ (∀ s ∈ K, in64 s.1 ∧ in64 s.2) ∧ K.length ≤ 2 * L.length ∧ K.length ≤ cq ∧ (∀ a, q = some a → w.heap.size ≤ a.block ∧ a.spot = none)) := Lib.hid ⟨hK, hM, h64, by omega, hcq, fun a ha => ⟨by have := (hqb a ha).1; omega, (hqb a ha).2⟩⟩
  have HS := Lib.hid hsp3
  clear hK hM h64 hKl hcq hqb hsp hb2 hbb HW hsp3 x1 f1
  go_wp2
  refine bodyPost_ret (v := .agg #[.slice q K.length cq]) (by simp [results, Tryd.results9, go_sem, x3]) rfl ?_
  obtain ⟨r1, r2, r3, r4, r5, r6⟩ := HR.out
  exact ⟨K, q, cq, rfl, r1, r2, r3, r4, r5, r6, HS.out, hb3⟩


open Go Go.RowKit Go.Proofs

/-- A set of days, as a value. -/
def IsSet (w : World) (N : Nat) (P : Int → Bool) (v : Value) : Prop :=
  ∃ (K : List Sp) (p : Option Addr) (c : Nat), v = .agg #[.slice p K.length c] ∧ Canon K ∧ (∀ d, Mem K d ↔ P d = true) ∧ (∀ s ∈ K, in64 s.1 ∧ in64 s.2) ∧ K.length ≤ N ∧ (∀ a, p = some a → a.spot = none) ∧ SpansIn w p K
theorem IsSet.below {w w' : World} {N B : Nat} {P : Int → Bool} {v : Value} (h : IsSet w N P v) (hb : Below B w w') (hB : w.heap.size ≤ B) : IsSet w' N P v := by
  obtain ⟨K, p, c, h1, h2, h3, h4, h5, h6, h7⟩ := h
  exact ⟨K, p, c, h1, h2, h3, h4, h5, h6, h7.below hb hB⟩
theorem IsSet.congr {w : World} {N M : Nat} {P Q : Int → Bool} {v : Value} (h : IsSet w N P v) (hP : ∀ d, P d = Q d) (hN : N ≤ M) : IsSet w M Q v := by
  obtain ⟨K, p, c, h1, h2, h3, h4, h5, h6, h7⟩ := h
  exact ⟨K, p, c, h1, h2, fun d => by rw [← hP]; exact h3 d, h4, by omega, h6, h7⟩
/-- The set's memory was made from block B on. -/
def FreshV (B : Nat) (v : Value) : Prop := ∀ p n c, v = .agg #[.slice p n c] → ∀ a, p = some a → B ≤ a.block
/-- A call that returns a set. -/
def SetPost (N : Nat) (P : Int → Bool) (w : World) (e : Ending) (w' : World) : Prop := ∃ v, e = .returned v ∧ IsSet w' N P v ∧ Below w.heap.size w w' ∧ FreshV w.heap.size v
theorem FreshV.mk {B : Nat} {p : Option Addr} {n c : Nat} (h : ∀ a, p = some a → B ≤ a.block) : FreshV B (.agg #[.slice p n c]) := fun p' n' c' he a ha => by
  simp at he
  obtain ⟨rfl, -, -⟩ := he
  exact h a ha
theorem SetOwn.post {N : Nat} {P : Int → Bool} {w : World} {e : Ending} {w' : World} (h : SetOwn w.heap.size N P w e w') : SetPost N P w e w' := by
  obtain ⟨K, p, c, h1, h2, h3, h4, h5, -, h6, h7, h8⟩ := h
  exact ⟨_, h1, ⟨K, p, c, rfl, h2, h3, h4, h5, fun a ha => (h6 a ha).2, h7⟩, h8, .mk (fun a ha => (h6 a ha).1)⟩
theorem hasB_of {K : List Sp} {P : Int → Bool} (h : ∀ d, Mem K d ↔ P d = true) (d : Int) : hasB K d = P d := by
  have h1 := h d
  rw [← hasB_iff] at h1
  cases e : hasB K d <;> cases e2 : P d <;> simp_all
theorem EvsIn.kept {w w' : World} {p : Option Addr} {L : List Ev} {row : Option Nat} (h : EvsIn w p L) (hg : w.grownBy w' row) (hne : ∀ a, p = some a → row ≠ some a.block) : EvsIn w' p L := by
  rcases h with h | ⟨b, o, rfl, hc⟩
  · exact .inl h
  · have hb := hne _ rfl
    refine .inr ⟨b, o, rfl, fun j hj => ?_⟩
    obtain ⟨h1, h2, h3⟩ := hc j hj
    exact ⟨hg.cell h1 (Ne.symm hb), hg.cell h2 (Ne.symm hb), hg.cell h3 (Ne.symm hb)⟩
theorem new_unfrozen (X : World) (cs : Array Value) (t : TypeId) (j : Nat) : (X.alloc (.cells cs t)).frozen? ⟨X.heap.size, j, none⟩ = false := by simp [World.frozen?_alloc_mark]
def toR (e : Ev) : Ev := (e.1, 0, e.2.1)
theorem endsR_map (L : List Sp) : endsR L = (endsL L).map toR := endsR_of L

set_option maxHeartbeats 2000000 in
set_option maxRecDepth 100000 in
theorem together_any (g : Nat) (kp : Bool → Bool → Bool) (p1 p2 : Option Addr) (c1 c2 : Nat) (K1 K2 : List Sp) (w : World) (n1 : K1.length ≤ 10000) (n2 : K2.length ≤ 10000) (a64 : ∀ s ∈ K1, in64 s.1 ∧ in64 s.2) (b64 : ∀ s ∈ K2, in64 s.1 ∧ in64 s.2) (h1 : SpansIn w p1 K1) (h2 : SpansIn w p2 K2) (hkp : kp false false = false)
    (eg : ∀ args w, (callFunc g args).run Tryd.prog w = .ok (.enter g args) w) (hk : ∀ a b W, Calls Tryd.prog g #[.bool a, .bool b] W fun e w' => e = .returned (.bool (kp a b)) ∧ W = w') :
    Calls Tryd.prog 31 #[.agg #[.slice p1 K1.length c1], .agg #[.slice p2 K2.length c2], .func (.func g) #[] #[]] w (SetOwn w.heap.size (2 * K1.length + 2 * K2.length) (fun d => kp (hasB K1 d) (hasB K2 d)) w) := by
  obtain ⟨W3, hW3⟩ : ∃ W3, W3 = ((w.alloc (.cells #[.slice p1 K1.length c1] 50)).alloc (.cells #[.slice p2 K2.length c2] 50)).alloc (.cells #[.slice none 0 0] 50) := ⟨_, rfl⟩
  have hb0 : Below w.heap.size w W3 := by rw [hW3]; exact (((Below.refl w.heap.size w).alloc (Nat.le_refl _) _).alloc (by simp) _).alloc (by simp; omega) _
  have hz0 : W3.heap.size = w.heap.size + 3 := by rw [hW3]; simp
  have q1 : W3.cell? ⟨w.heap.size, 0, none⟩ = some (.slice p1 K1.length c1) := by
    rw [hW3, World.cell?_alloc_lt _ _ _ (by simp; omega), World.cell?_alloc_lt _ _ _ (by simp), World.cell?_alloc_new]; rfl
  have hzb : ((w.alloc (.cells #[.slice p1 K1.length c1] 50)).alloc (.cells #[.slice p2 K2.length c2] 50)).heap.size = w.heap.size + 1 + 1 := by simp
  have hza : (w.alloc (.cells #[.slice p1 K1.length c1] 50)).heap.size = w.heap.size + 1 := by simp
  have q2 : W3.cell? ⟨w.heap.size + 1, 0, none⟩ = some (.slice p2 K2.length c2) := by
    rw [hW3, World.cell?_alloc_lt _ _ _ (by simp), ← hza, World.cell?_alloc_new]; rfl
  have q3 : W3.cell? ⟨w.heap.size + 1 + 1, 0, none⟩ = some (.slice none 0 0) := by
    rw [hW3, ← hzb, World.cell?_alloc_new]; rfl
  have f3 : W3.frozen? ⟨w.heap.size + 1 + 1, 0, none⟩ = false := by
    rw [hW3, ← hzb]; exact new_unfrozen _ _ _ _
  clear hza hzb
  have HE1 := Lib.hid (leftEnds_any p1 c1 K1 W3 (by omega) (h1.below hb0 (Nat.le_refl _)))
  have H2 := Lib.hid (h2.below hb0 (Nat.le_refl _))
  have l1 := endsL_len K1
  have l2 := endsL_len K2
  have HK := Lib.hid hk
  have A64 := Lib.hid a64
  have B64 := Lib.hid b64
  have HKP := Lib.hid hkp
  clear h1 h2 hk a64 b64 hkp
  go_enter Tryd.func31, Tryd.ntmps31
  go_wp2_with fail
  rw [← hW3]
  clear hW3
  refine (HE1.out).mono ?_
  rintro e W4 ⟨v1, rfl, ho1, hb1⟩
  have hz1 := hb1.size
  have r2 := (hb1.cell (p := ⟨w.heap.size + 1, 0, none⟩) (by show w.heap.size + 1 < _; omega)).trans q2
  have HE2 := Lib.hid (leftEnds_any p2 c2 K2 W4 (by omega) (H2.out.below hb1 (Nat.le_refl _)))
  have HO1 := Lib.hid ho1
  clear HE1 H2 ho1
  go_wp2_with fail
  refine (HE2.out).mono ?_
  rintro e W5 ⟨v2, rfl, ho2, hb2⟩
  have hz2 := hb2.size
  have HO2 := Lib.hid (own_below HO1.out hb2 (Nat.le_refl _))
  obtain ⟨e2, ce2, rfl, -⟩ := own_slice ho2
  have HI2 := Lib.hid (EvsIn.of_own ho2)
  have HG2 : Hid (∀ a, e2 = some a → v1.ownBlock ≠ some a.block) := Lib.hid (fun a ha h => by
    subst ha
    have h3 := (ho2.lt a.block rfl).1
    have h4 := (HO1.out.lt a.block h).2
    omega)
  have HGS : Hid (∀ a, e2 = some a → a.block < W5.heap.size) := Lib.hid (fun a ha => by subst ha; exact (ho2.lt a.block rfl).2)
  have hb3 := hb1.trans (hb2.mono hz1)
  obtain ⟨m1, hm1⟩ : ∃ m1, m1 = (endsL K1).length := ⟨_, rfl⟩
  obtain ⟨m2, hm2⟩ : ∃ m2, m2 = (endsL K2).length := ⟨_, rfl⟩
  rw [← hm1] at HO2
  rw [← hm2]
  have M1 := Lib.hid hm1
  have M2 := Lib.hid hm2
  have b1 : m1 ≤ 2 * K1.length := by omega
  have b2 : m2 ≤ 2 * K2.length := by omega
  clear hm1 hm2 l1 l2 ho2 hb1 hb2 HE2 HO1 q1 q2 r2 hz1
  go_wp2
  go_loopw [7, 9, 17] (fun vv _ kv wr => ∃ (k : Nat) (u : Value), k ≤ m2 ∧ kv = .int .i64 k ∧ u = vv ∧ W5.heap.size ≤ wr.heap.size ∧ Hid (wr.ownsRow W3.heap.size 85 3 u (m1 + k) (evC (endsL K1 ++ ((endsL K2).take k).map toR))) ∧ Hid (∀ a, e2 = some a → u.ownBlock ≠ some a.block) ∧ Hid (EvsIn wr e2 (endsL K2)) ∧ Below W3.heap.size W3 wr) (fun _ _ kv _ => m2 - (RowKit.intOf kv).toNat)
  case atStart => exact ⟨0, _, by omega, rfl, rfl, Nat.le_refl _, Lib.hid (by simpa using HO2.out), HG2, HI2, hb3⟩
  case round =>
    obtain ⟨k, u, hk, rfl, rfl, hsz, HO, HG, HI, hb⟩ := hrel
    clear HO2 HG2 HI2 hb3
    by_cases hlt : k < m2
    · have hlt' : k < (endsL K2).length := by rw [← M2.out]; exact hlt
      have htk := take_next (endsL K2) (0, 0, 0) hlt'
      rcases HI.out with h | ⟨b, o, rfl, hc⟩
      · rw [h] at hlt'; simp at hlt'
      obtain ⟨x1, x2, x3⟩ := hc k hlt'
      have i1 : (k : Int) < (m2 : Int) := by omega
      have HT := Lib.hid htk
      clear hc htk hlt'
      generalize (endsL K2).getD k (0, 0, 0) = s at x1 x2 x3 HT
      obtain ⟨x, y, z⟩ := s
      dsimp only at x1 x2 x3
      have hb1 := hb.alloc hb.size (.cells #[.int .i64 x, .int .i64 y, .int .i64 z] 85)
      have HO1 := Lib.hid (HO.out.alloc (.cells #[.int .i64 x, .int .i64 y, .int .i64 z] 85))
      have HI1 := Lib.hid (HI.out.below ((Below.refl wr.heap.size wr).alloc (Nat.le_refl _) (.cells #[.int .i64 x, .int .i64 y, .int .i64 z] 85)) (Nat.le_refl _))
      have hbs := HGS.out _ rfl
      clear HO HI hb
      go_wp2_with (at_builtin; refine app_arm_at Tryd.underlying63 infoEnd rfl (by omega) (by omega) W3.heap.size (wr.alloc (.cells #[.int .i64 x, .int .i64 y, .int .i64 z] 85)) _ (m1 + k) _ HO1.out 1 [.int .i64 x, .int .i64 0, .int .i64 y] rfl (evC_one (L := [(x, 0, y)])) (by omega) hb1.size rfl _ _ rfl rfl (by rw [World.size_alloc]; rfl) ?_; intro v' w3 ho hg hat; have HO3 := Lib.hid ho; have HGR := Lib.hid hg; have HAT := Lib.hid hat; clear ho hg hat)
      have hfa := (Below.refl (wr.alloc (.cells #[.int .i64 x, .int .i64 y, .int .i64 z] 85)).heap.size (wr.alloc (.cells #[.int .i64 x, .int .i64 y, .int .i64 z] 85))).alloc (Nat.le_refl _) (.cells [.int .i64 x, .int .i64 0, .int .i64 y].toArray 85)
      have hs1 : (wr.alloc (.cells #[.int .i64 x, .int .i64 y, .int .i64 z] 85)).heap.size = wr.heap.size + 1 := by simp
      have hs2 := hfa.size
      have hs3 := HGR.out.size
      refine ⟨⟨k + 1, v', by omega, by go_num, rfl, by omega, Lib.hid ?_, Lib.hid (fun a ha h => ?_), Lib.hid (EvsIn.kept (HI1.out.below hfa (Nat.le_refl _)) HGR.out (fun a ha => HG.out a ha)), (hb1.alloc hb1.size _).grown HGR.out (by have := hb1.size; omega) (fun q hq => (HO1.out.lt q hq).1)⟩, by simp [RowKit.intOf]; omega⟩
      · rw [HT.out, List.map_append, ← List.append_assoc, evC_app]
        exact HO3.out
      · injection ha with ha
        subst ha
        rcases HAT.out with h2 | h2
        · exact HG.out _ rfl (h2.symm.trans h)
        · rw [h2] at h
          injection h with h
          have : b = (wr.alloc (.cells #[.int .i64 x, .int .i64 y, .int .i64 z] 85)).heap.size + 1 := h.symm
          have hbs' : b < W5.heap.size := hbs
          omega
    · obtain rfl : m2 = k := by omega
      have hall : ((endsL K2).take m2).map toR = endsR K2 := by rw [M2.out, List.take_length, endsR_map]
      rw [hall] at HO
      have hlE : (endsL K1 ++ endsR K2).length = m1 + m2 := by rw [List.length_append, endsR_map, List.length_map, ← M1.out, ← M2.out]
      have hbsz := hb.size
      have HW := Lib.hid (walk_any W3.heap.size g kp u (endsL K1 ++ endsR K2) K1 K2 wr rfl (by omega) HKP.out (fun e he => by
        rcases List.mem_append.1 he with he | he
        · exact endsL_in64 A64.out e he
        · rw [endsR_map] at he
          obtain ⟨e', he', rfl⟩ := List.mem_map.1 he
          exact endsL_in64 B64.out e' he') (fun e he => by
        rcases List.mem_append.1 he with he | he
        · have := endsL_bd e he; omega
        · rw [endsR_map] at he
          obtain ⟨e', he', rfl⟩ := List.mem_map.1 he
          have := endsL_bd e' he'
          simp only [toR]
          omega) (by rw [hlE]; exact HO.out) hbsz eg HK.out)
      rw [hlE] at HW
      have x1 := (hb.cell (p := ⟨w.heap.size + 1 + 1, 0, none⟩) (by show w.heap.size + 1 + 1 < _; omega)).trans q3
      have f1 := (hb.frozen (p := ⟨w.heap.size + 1 + 1, 0, none⟩) (by show w.heap.size + 1 + 1 < _; omega)).trans f3
      have hbw := hb0.trans (hb.mono (by omega))
      clear HO HG HI hb hall hlE hlt hk HGS
      go_wp2_with fail
      refine (HW.out).mono ?_
      rintro e w2 ⟨K, q, cq, rfl, hK, hM, h64, hKl, hcq, hqb, hsp, hb2⟩
      have x2 := (hb2.cell (p := ⟨w.heap.size + 1 + 1, 0, none⟩) (by show w.heap.size + 1 + 1 < _; omega)).trans x1
      have f2 := (hb2.frozen (p := ⟨w.heap.size + 1 + 1, 0, none⟩) (by show w.heap.size + 1 + 1 < _; omega)).trans f1
      have hb3 := (hbw.trans (hb2.mono (by omega))).setCell (p := ⟨w.heap.size + 1 + 1, 0, none⟩) (by show w.heap.size ≤ w.heap.size + 1 + 1; omega) (.slice q K.length cq)
      have hsp3 := hsp.far ⟨w.heap.size + 1 + 1, 0, none⟩ (.slice q K.length cq) (fun a ha => by have := (hqb a ha).1; show w.heap.size + 1 + 1 ≠ a.block; omega)
      have x3 : (w2.setCell ⟨w.heap.size + 1 + 1, 0, none⟩ (.slice q K.length cq)).cell? ⟨w.heap.size + 1 + 1, 0, none⟩ = some (.slice q K.length cq) := World.cell?_setCell_same _ _ _ x2
      have HR : Hid (Canon K ∧ (∀ d, Mem K d ↔ kp (hasB K1 d) (hasB K2 d) = true) ∧ (∀ s ∈ K, in64 s.1 ∧ in64 s.2) ∧ K.length ≤ 2 * K1.length + 2 * K2.length ∧ K.length ≤ cq ∧ (∀ a, q = some a → w.heap.size ≤ a.block ∧ a.spot = none)) := Lib.hid ⟨hK, hM, h64, by omega, hcq, fun a ha => ⟨by have := (hqb a ha).1; omega, (hqb a ha).2⟩⟩
      have HS := Lib.hid hsp3
      clear hK hM h64 hKl hcq hqb hsp hb2 hbw HW hsp3 x1 f1 hb0
      go_wp2
      refine bodyPost_ret (v := .agg #[.slice q K.length cq]) (by simp [results, Tryd.results31, go_sem, x3]) rfl ?_
      obtain ⟨r1, r2, r3, r4, r5, r6⟩ := HR.out
      exact ⟨K, q, cq, rfl, r1, r2, r3, r4, r5, r6, HS.out, hb3⟩


open Go Go.RowKit Go.Proofs

set_option maxHeartbeats 1000000 in
set_option maxRecDepth 100000 in
theorem Union_any (v1 v2 : Value) (N M : Nat) (P Q : Int → Bool) (w : World) (hN : N ≤ 10000) (hM : M ≤ 10000) (h1 : IsSet w N P v1) (h2 : IsSet w M Q v2) :
    Calls Tryd.prog 13 #[v1, v2] w (SetPost (2 * N + 2 * M) (fun d => P d || Q d) w) := by
  obtain ⟨K1, p1, c1, rfl, k1, m1, a64, l1, -, s1⟩ := h1
  obtain ⟨K2, p2, c2, rfl, k2, m2, b64, l2, -, s2⟩ := h2
  obtain ⟨W3, hW3⟩ : ∃ W3, W3 = ((w.alloc (.cells #[.slice p1 K1.length c1] 50)).alloc (.cells #[.slice p2 K2.length c2] 50)).alloc (.cells #[.slice none 0 0] 50) := ⟨_, rfl⟩
  have hb0 : Below w.heap.size w W3 := by rw [hW3]; exact (((Below.refl w.heap.size w).alloc (Nat.le_refl _) _).alloc (by simp) _).alloc (by simp; omega) _
  have hz0 : W3.heap.size = w.heap.size + 3 := by rw [hW3]; simp
  have hzb : ((w.alloc (.cells #[.slice p1 K1.length c1] 50)).alloc (.cells #[.slice p2 K2.length c2] 50)).heap.size = w.heap.size + 1 + 1 := by simp
  have q3 : W3.cell? ⟨w.heap.size + 1 + 1, 0, none⟩ = some (.slice none 0 0) := by
    rw [hW3, ← hzb, World.cell?_alloc_new]; rfl
  have f3 : W3.frozen? ⟨w.heap.size + 1 + 1, 0, none⟩ = false := by
    rw [hW3, ← hzb]; exact new_unfrozen _ _ _ _
  have HT := Lib.hid (together_any 32 (fun a b => a || b) p1 p2 c1 c2 K1 K2 W3 (by omega) (by omega) a64 b64 (s1.below hb0 (Nat.le_refl _)) (s2.below hb0 (Nat.le_refl _)) rfl (enters_of Tryd.func32 (by kernel_rfl) rfl) unionKeep_any)
  have HM : Hid (∀ d, (hasB K1 d || hasB K2 d) = (P d || Q d)) := Lib.hid (fun d => by rw [hasB_of m1, hasB_of m2])
  clear hzb a64 b64 s1 s2 k1 k2 m1 m2
  go_enter Tryd.func13, Tryd.ntmps13
  go_wp2_with fail
  rw [← hW3]
  clear hW3
  refine (HT.out).mono ?_
  rintro e w2 ⟨K, q, cq, rfl, hK, hM, h64, hKl, hcq, hqb, hsp, hb2⟩
  have x2 := (hb2.cell (p := ⟨w.heap.size + 1 + 1, 0, none⟩) (by show w.heap.size + 1 + 1 < _; omega)).trans q3
  have f2 := (hb2.frozen (p := ⟨w.heap.size + 1 + 1, 0, none⟩) (by show w.heap.size + 1 + 1 < _; omega)).trans f3
  have hb3 := (hb0.trans (hb2.mono (by omega))).setCell (p := ⟨w.heap.size + 1 + 1, 0, none⟩) (by show w.heap.size ≤ w.heap.size + 1 + 1; omega) (.slice q K.length cq)
  have hsp3 := hsp.far ⟨w.heap.size + 1 + 1, 0, none⟩ (.slice q K.length cq) (fun a ha => by have := (hqb a ha).1; show w.heap.size + 1 + 1 ≠ a.block; omega)
  have x3 : (w2.setCell ⟨w.heap.size + 1 + 1, 0, none⟩ (.slice q K.length cq)).cell? ⟨w.heap.size + 1 + 1, 0, none⟩ = some (.slice q K.length cq) := World.cell?_setCell_same _ _ _ x2
  have HR : Hid (IsSet (w2.setCell ⟨w.heap.size + 1 + 1, 0, none⟩ (.slice q K.length cq)) (2 * N + 2 * M) (fun d => P d || Q d) (.agg #[.slice q K.length cq])) := Lib.hid ⟨K, q, cq, rfl, hK, fun d => by rw [hM d]; exact Bool.eq_iff_iff.1 (HM.out d), h64, by omega, (fun a ha => (hqb a ha).2), hsp3⟩
  have HF : Hid (FreshV w.heap.size (.agg #[.slice q K.length cq])) := Lib.hid (.mk (fun a ha => by have := (hqb a ha).1; omega))
  clear hK hM h64 hKl hcq hqb hsp hb2 HT hsp3 hb0 HM
  go_wp2
  exact bodyPost_ret (v := .agg #[.slice q K.length cq]) (by simp [results, Tryd.results13, go_sem, x3]) rfl ⟨_, rfl, HR.out, hb3, HF.out⟩

set_option maxHeartbeats 1000000 in
set_option maxRecDepth 100000 in
theorem Meet_any (v1 v2 : Value) (N M : Nat) (P Q : Int → Bool) (w : World) (hN : N ≤ 10000) (hM : M ≤ 10000) (h1 : IsSet w N P v1) (h2 : IsSet w M Q v2) :
    Calls Tryd.prog 28 #[v1, v2] w (SetPost (2 * N + 2 * M) (fun d => P d && Q d) w) := by
  obtain ⟨K1, p1, c1, rfl, k1, m1, a64, l1, -, s1⟩ := h1
  obtain ⟨K2, p2, c2, rfl, k2, m2, b64, l2, -, s2⟩ := h2
  obtain ⟨W3, hW3⟩ : ∃ W3, W3 = ((w.alloc (.cells #[.slice p1 K1.length c1] 50)).alloc (.cells #[.slice p2 K2.length c2] 50)).alloc (.cells #[.slice none 0 0] 50) := ⟨_, rfl⟩
  have hb0 : Below w.heap.size w W3 := by rw [hW3]; exact (((Below.refl w.heap.size w).alloc (Nat.le_refl _) _).alloc (by simp) _).alloc (by simp; omega) _
  have hz0 : W3.heap.size = w.heap.size + 3 := by rw [hW3]; simp
  have hzb : ((w.alloc (.cells #[.slice p1 K1.length c1] 50)).alloc (.cells #[.slice p2 K2.length c2] 50)).heap.size = w.heap.size + 1 + 1 := by simp
  have q3 : W3.cell? ⟨w.heap.size + 1 + 1, 0, none⟩ = some (.slice none 0 0) := by
    rw [hW3, ← hzb, World.cell?_alloc_new]; rfl
  have f3 : W3.frozen? ⟨w.heap.size + 1 + 1, 0, none⟩ = false := by
    rw [hW3, ← hzb]; exact new_unfrozen _ _ _ _
  have HT := Lib.hid (together_any 45 (fun a b => a && b) p1 p2 c1 c2 K1 K2 W3 (by omega) (by omega) a64 b64 (s1.below hb0 (Nat.le_refl _)) (s2.below hb0 (Nat.le_refl _)) rfl (enters_of Tryd.func45 (by kernel_rfl) rfl) meetKeep_any)
  have HM : Hid (∀ d, (hasB K1 d && hasB K2 d) = (P d && Q d)) := Lib.hid (fun d => by rw [hasB_of m1, hasB_of m2])
  clear hzb a64 b64 s1 s2 k1 k2 m1 m2
  go_enter Tryd.func28, Tryd.ntmps28
  go_wp2_with fail
  rw [← hW3]
  clear hW3
  refine (HT.out).mono ?_
  rintro e w2 ⟨K, q, cq, rfl, hK, hM, h64, hKl, hcq, hqb, hsp, hb2⟩
  have x2 := (hb2.cell (p := ⟨w.heap.size + 1 + 1, 0, none⟩) (by show w.heap.size + 1 + 1 < _; omega)).trans q3
  have f2 := (hb2.frozen (p := ⟨w.heap.size + 1 + 1, 0, none⟩) (by show w.heap.size + 1 + 1 < _; omega)).trans f3
  have hb3 := (hb0.trans (hb2.mono (by omega))).setCell (p := ⟨w.heap.size + 1 + 1, 0, none⟩) (by show w.heap.size ≤ w.heap.size + 1 + 1; omega) (.slice q K.length cq)
  have hsp3 := hsp.far ⟨w.heap.size + 1 + 1, 0, none⟩ (.slice q K.length cq) (fun a ha => by have := (hqb a ha).1; show w.heap.size + 1 + 1 ≠ a.block; omega)
  have x3 : (w2.setCell ⟨w.heap.size + 1 + 1, 0, none⟩ (.slice q K.length cq)).cell? ⟨w.heap.size + 1 + 1, 0, none⟩ = some (.slice q K.length cq) := World.cell?_setCell_same _ _ _ x2
  have HR : Hid (IsSet (w2.setCell ⟨w.heap.size + 1 + 1, 0, none⟩ (.slice q K.length cq)) (2 * N + 2 * M) (fun d => P d && Q d) (.agg #[.slice q K.length cq])) := Lib.hid ⟨K, q, cq, rfl, hK, fun d => by rw [hM d]; exact Bool.eq_iff_iff.1 (HM.out d), h64, by omega, (fun a ha => (hqb a ha).2), hsp3⟩
  have HF : Hid (FreshV w.heap.size (.agg #[.slice q K.length cq])) := Lib.hid (.mk (fun a ha => by have := (hqb a ha).1; omega))
  clear hK hM h64 hKl hcq hqb hsp hb2 HT hsp3 hb0 HM
  go_wp2
  exact bodyPost_ret (v := .agg #[.slice q K.length cq]) (by simp [results, Tryd.results28, go_sem, x3]) rfl ⟨_, rfl, HR.out, hb3, HF.out⟩

set_option maxHeartbeats 1000000 in
set_option maxRecDepth 100000 in
theorem Minus_any (v1 v2 : Value) (N M : Nat) (P Q : Int → Bool) (w : World) (hN : N ≤ 10000) (hM : M ≤ 10000) (h1 : IsSet w N P v1) (h2 : IsSet w M Q v2) :
    Calls Tryd.prog 26 #[v1, v2] w (SetPost (2 * N + 2 * M) (fun d => P d && !Q d) w) := by
  obtain ⟨K1, p1, c1, rfl, k1, m1, a64, l1, -, s1⟩ := h1
  obtain ⟨K2, p2, c2, rfl, k2, m2, b64, l2, -, s2⟩ := h2
  obtain ⟨W3, hW3⟩ : ∃ W3, W3 = ((w.alloc (.cells #[.slice p1 K1.length c1] 50)).alloc (.cells #[.slice p2 K2.length c2] 50)).alloc (.cells #[.slice none 0 0] 50) := ⟨_, rfl⟩
  have hb0 : Below w.heap.size w W3 := by rw [hW3]; exact (((Below.refl w.heap.size w).alloc (Nat.le_refl _) _).alloc (by simp) _).alloc (by simp; omega) _
  have hz0 : W3.heap.size = w.heap.size + 3 := by rw [hW3]; simp
  have hzb : ((w.alloc (.cells #[.slice p1 K1.length c1] 50)).alloc (.cells #[.slice p2 K2.length c2] 50)).heap.size = w.heap.size + 1 + 1 := by simp
  have q3 : W3.cell? ⟨w.heap.size + 1 + 1, 0, none⟩ = some (.slice none 0 0) := by
    rw [hW3, ← hzb, World.cell?_alloc_new]; rfl
  have f3 : W3.frozen? ⟨w.heap.size + 1 + 1, 0, none⟩ = false := by
    rw [hW3, ← hzb]; exact new_unfrozen _ _ _ _
  have HT := Lib.hid (together_any 44 (fun a b => a && !b) p1 p2 c1 c2 K1 K2 W3 (by omega) (by omega) a64 b64 (s1.below hb0 (Nat.le_refl _)) (s2.below hb0 (Nat.le_refl _)) rfl (enters_of Tryd.func44 (by kernel_rfl) rfl) minusKeep_any)
  have HM : Hid (∀ d, (hasB K1 d && !hasB K2 d) = (P d && !Q d)) := Lib.hid (fun d => by rw [hasB_of m1, hasB_of m2])
  clear hzb a64 b64 s1 s2 k1 k2 m1 m2
  go_enter Tryd.func26, Tryd.ntmps26
  go_wp2_with fail
  rw [← hW3]
  clear hW3
  refine (HT.out).mono ?_
  rintro e w2 ⟨K, q, cq, rfl, hK, hM, h64, hKl, hcq, hqb, hsp, hb2⟩
  have x2 := (hb2.cell (p := ⟨w.heap.size + 1 + 1, 0, none⟩) (by show w.heap.size + 1 + 1 < _; omega)).trans q3
  have f2 := (hb2.frozen (p := ⟨w.heap.size + 1 + 1, 0, none⟩) (by show w.heap.size + 1 + 1 < _; omega)).trans f3
  have hb3 := (hb0.trans (hb2.mono (by omega))).setCell (p := ⟨w.heap.size + 1 + 1, 0, none⟩) (by show w.heap.size ≤ w.heap.size + 1 + 1; omega) (.slice q K.length cq)
  have hsp3 := hsp.far ⟨w.heap.size + 1 + 1, 0, none⟩ (.slice q K.length cq) (fun a ha => by have := (hqb a ha).1; show w.heap.size + 1 + 1 ≠ a.block; omega)
  have x3 : (w2.setCell ⟨w.heap.size + 1 + 1, 0, none⟩ (.slice q K.length cq)).cell? ⟨w.heap.size + 1 + 1, 0, none⟩ = some (.slice q K.length cq) := World.cell?_setCell_same _ _ _ x2
  have HR : Hid (IsSet (w2.setCell ⟨w.heap.size + 1 + 1, 0, none⟩ (.slice q K.length cq)) (2 * N + 2 * M) (fun d => P d && !Q d) (.agg #[.slice q K.length cq])) := Lib.hid ⟨K, q, cq, rfl, hK, fun d => by rw [hM d]; exact Bool.eq_iff_iff.1 (HM.out d), h64, by omega, (fun a ha => (hqb a ha).2), hsp3⟩
  have HF : Hid (FreshV w.heap.size (.agg #[.slice q K.length cq])) := Lib.hid (.mk (fun a ha => by have := (hqb a ha).1; omega))
  clear hK hM h64 hKl hcq hqb hsp hb2 HT hsp3 hb0 HM
  go_wp2
  exact bodyPost_ret (v := .agg #[.slice q K.length cq]) (by simp [results, Tryd.results26, go_sem, x3]) rfl ⟨_, rfl, HR.out, hb3, HF.out⟩


open Go Go.RowKit Go.Proofs Go.Shelf

/-- A call that returns a set's spans. -/
def ListPost (N : Nat) (P : Int → Bool) (w : World) (e : Ending) (w' : World) : Prop :=
  ∃ (K : List Sp) (q : Option Addr) (c : Nat), e = .returned (.slice q K.length c) ∧ Canon K ∧ (∀ d, Mem K d ↔ P d = true) ∧ (∀ s ∈ K, in64 s.1 ∧ in64 s.2) ∧ K.length ≤ N ∧ SpansIn w' q K ∧ Below w.heap.size w w'
theorem u64_sub {a b : Int} (ha : in64 a) (hb : in64 b) (h : a < b) : IntKind.u64.wrap (IntKind.u64.wrap b - IntKind.u64.wrap a) = b - a := by
  unfold in64 at ha hb
  rw [IntKind.wrap_u64, IntKind.wrap_u64, IntKind.wrap_u64]
  omega
theorem cut62_min (x : Int) : min x 4611686018427387904 = cut62 x := by unfold cut62; split <;> omega
set_option maxHeartbeats 1000000 in
set_option maxRecDepth 100000 in
theorem Length_any (a b : Int) (w : World) (ha : in64 a) (hb : in64 b) : Calls Tryd.prog 27 #[.agg #[.int .i64 a, .int .i64 b]] w fun e w' => e = .returned (.int .i64 (cut62 (lenS (a, b)))) ∧ Below w.heap.size w w' := by
  have hb1 := (Below.refl w.heap.size w).alloc (Nat.le_refl _) (.cells #[.int .i64 a, .int .i64 b] 34)
  have hz1 : (w.alloc (.cells #[.int .i64 a, .int .i64 b] 34)).heap.size = w.heap.size + 1 := by simp
  have x1 : (w.alloc (.cells #[.int .i64 a, .int .i64 b] 34)).cell? ⟨w.heap.size, 0, none⟩ = some (.int .i64 a) := by rw [World.cell?_alloc_new]; rfl
  have x2 : (w.alloc (.cells #[.int .i64 a, .int .i64 b] 34)).cell? ⟨w.heap.size, 1, none⟩ = some (.int .i64 b) := by rw [World.cell?_alloc_new]; rfl
  by_cases h : b ≤ a
  · have he : emB (a, b) = true := by simp [emB, h]
    rw [show cut62 (lenS (a, b)) = 0 by simp [lenS, h, cut62]]
    go_enter Tryd.func27, Tryd.ntmps27
    go_wp2_with fail
    refine (isEmpty_any _ _ _).mono ?_
    rintro e w2 ⟨rfl, hb2⟩
    rw [he]
    go_wp2
    go_ret
    exact ⟨rfl, hb1.trans (hb2.mono (by omega))⟩
  · have he : emB (a, b) = false := by simp [emB]; omega
    have hl : lenS (a, b) = b - a := by simp only [lenS]; rw [if_neg h]
    have hw := u64_sub ha hb (by omega)
    rw [hl]
    unfold in64 at ha hb
    go_enter Tryd.func27, Tryd.ntmps27
    go_wp2_with fail
    refine (isEmpty_any _ _ _).mono ?_
    rintro e w2 ⟨rfl, hb2⟩
    rw [he]
    have y1 := (hb2.cell (p := ⟨w.heap.size, 0, none⟩) (by show w.heap.size < _; omega)).trans x1
    have y2 := (hb2.cell (p := ⟨w.heap.size, 1, none⟩) (by show w.heap.size < _; omega)).trans x2
    have hb3 := hb1.trans (hb2.mono (by omega))
    clear x1 x2 hb1 hb2 hl
    go_wp2
    go_ret
    exact ⟨by rw [cut62_min]; rfl, hb3⟩


open Go Go.RowKit Go.Proofs

theorem stoodSpan : Tryd.prog.stoodInHeld 34 = false := by kernel_rfl
theorem guardSpan : Tryd.prog.eqGuardType Tryd.prog.depth 34 = false := by kernel_rfl
theorem fieldsSpan' : (Tryd.prog.fieldsOf 34).toList.map (fun f => (f.name, f.type, f.offset)) = [("From", 25, 0), ("To", 25, 1)] := by kernel_rfl
theorem fieldsSpan : ∃ f g, (Tryd.prog.fieldsOf 34).toList = [f, g] ∧ f.name = "From" ∧ f.type = 25 ∧ f.offset = 0 ∧ g.name = "To" ∧ g.type = 25 ∧ g.offset = 1 := by
  obtain ⟨f, l, h1, h2, h3⟩ := List.map_eq_cons_iff.1 fieldsSpan'
  obtain ⟨g, l2, rfl, h4, h5⟩ := List.map_eq_cons_iff.1 h3
  obtain rfl := List.map_eq_nil_iff.1 h5
  injection h2 with a1 a2
  injection a2 with a2 a3
  injection h4 with b1 b2
  injection b2 with b2 b3
  exact ⟨f, g, h1, a1, a2, a3, b1, b2, b3⟩
theorem structSpan : Tryd.prog.underlying 34 = some (.struct (Tryd.prog.fieldsOf 34)) := by kernel_rfl
theorem neqSpan (x y x' y' : Int) (W : World) : (binOp .neq 34 (.agg #[.int .i64 x, .int .i64 y]) (.agg #[.int .i64 x', .int .i64 y'])).run Tryd.prog W = .ok (.bool (!(x == x' && y == y'))) W := by
  rw [run_neq_struct, run_equalIn_agg W 9999 _ _ _ structSpan stoodSpan]
  obtain ⟨f, g, hfg, f1, f2, f3, g1, g2, g3⟩ := fieldsSpan
  rw [hfg]
  have hu := Tryd.underlying25
  cases h1 : (x == x') <;> cases h2 : (y == y') <;> simp [Op.eqFields, f1, f2, f3, g1, g2, g3, go_sem, part, hu, h1, h2]
def inB (s : Sp) (d : Int) : Bool := decide (s.1 ≤ d ∧ d < s.2)
theorem hasB_yes {L : List Sp} {d : Int} {j : Nat} (hj : j < L.length) (h : inB (L.getD j (0, 0)) d = true) : hasB L d = true := by
  rw [hasB_iff]
  rw [getD_at L _ hj] at h
  exact ⟨_, List.getElem_mem hj, of_decide_eq_true h⟩
theorem hasB_no {L : List Sp} {d : Int} (h : ∀ j, j < L.length → inB (L.getD j (0, 0)) d = false) : hasB L d = false := by
  cases e : hasB L d with
  | false => rfl
  | true =>
    obtain ⟨s, hs, h1⟩ := hasB_iff.1 e
    obtain ⟨j, hj, rfl⟩ := List.getElem_of_mem hs
    have := h j hj
    rw [getD_at L _ hj] at this
    exact absurd h1 (of_decide_eq_false this)
/-- What two spans have in common. -/
def crossS (s t : Sp) : Sp := if min s.2 t.2 ≤ max s.1 t.1 then (0, 0) else (max s.1 t.1, min s.2 t.2)


open Go Go.RowKit Go.Proofs Go.Shelf

theorem cut62_add {a b : Int} (ha : 0 ≤ a) (hb : 0 ≤ b) : min (cut62 a) (4611686018427387904 - cut62 b) + cut62 b = cut62 (a + b) := by
  unfold cut62
  split <;> split <;> split <;> omega
theorem cut62_bd {a : Int} (ha : 0 ≤ a) : 0 ≤ cut62 a ∧ cut62 a ≤ 4611686018427387904 := by unfold cut62; split <;> omega
theorem dsum_take (K : List Sp) {k : Nat} (h : k < K.length) : dsum (K.take (k + 1)) = dsum (K.take k) + lenS (K.getD k (0, 0)) := by
  rw [take_next K (0, 0) h, dsum_snoc]
theorem Length3 (a b : Int) (g : Nat) (va vb : Value) (W0 w : World) (ha : in64 a) (hb : in64 b) (h0 : w.cell? ⟨g, 0, none⟩ = some va) (h1 : w.cell? ⟨g, 1, none⟩ = some vb) (hbl : Below W0.heap.size W0 w) :
    Calls Tryd.prog 27 #[.agg #[.int .i64 a, .int .i64 b]] w fun e w' => e = .returned (.int .i64 (cut62 (lenS (a, b)))) ∧ w'.cell? ⟨g, 0, none⟩ = some va ∧ w'.cell? ⟨g, 1, none⟩ = some vb ∧ Below W0.heap.size W0 w' :=
  (Length_any a b w ha hb).mono fun _ _ ⟨he, hb2⟩ => ⟨he, (hb2.cell (p := ⟨g, 0, none⟩) (World.block_lt_of_cell? w _ h0)).trans h0, (hb2.cell (p := ⟨g, 1, none⟩) (World.block_lt_of_cell? w _ h1)).trans h1, hbl.trans (hb2.mono hbl.size)⟩

set_option maxHeartbeats 1000000 in
set_option maxRecDepth 100000 in
theorem Days_any (v : Value) (N : Nat) (P : Int → Bool) (w : World) (hN : N ≤ 100000) (h : IsSet w N P v) :
    Calls Tryd.prog 24 #[v] w fun e w' => (∃ K, Canon K ∧ (∀ d, Mem K d ↔ P d = true) ∧ (∀ s ∈ K, in64 s.1 ∧ in64 s.2) ∧ e = .returned (.int .i64 (cut62 (dsum K)))) ∧ Below w.heap.size w w' := by
  obtain ⟨K, p, c, rfl, k1, m1, a64, l1, hs, s1⟩ := h
  obtain ⟨W0, hW0⟩ : ∃ W0, W0 = w.alloc (.cells #[.slice p K.length c] 50) := ⟨_, rfl⟩
  have hb0 : Below w.heap.size w W0 := by rw [hW0]; exact (Below.refl w.heap.size w).alloc (Nat.le_refl _) _
  have HI := Lib.hid (s1.below hb0 (Nat.le_refl _))
  have H64 := Lib.hid a64
  have HKK : Hid (Canon K ∧ (∀ d, Mem K d ↔ P d = true) ∧ (∀ s ∈ K, in64 s.1 ∧ in64 s.2)) := Lib.hid ⟨k1, m1, a64⟩
  have hn : K.length ≤ 100000 := by omega
  clear a64 k1 m1 s1 l1 hs
  obtain ⟨n, hnl⟩ : ∃ n, n = K.length := ⟨_, rfl⟩
  rw [← hnl] at hn hW0 ⊢
  have HN := Lib.hid hnl
  clear hnl
  go_enter Tryd.func24, Tryd.ntmps24
  go_wp2
  rw [← hW0]
  clear hW0
  go_loopw [3, 5, 9] (fun sv _ iv wr => ∃ (k : Nat) (x : Int), k ≤ n ∧ iv = .int .i64 k ∧ sv = .int .i64 x ∧ Hid (x = cut62 (dsum (K.take k))) ∧ Below W0.heap.size W0 wr) (fun _ _ iv _ => n - (RowKit.intOf iv).toNat)
  case atStart => exact ⟨0, 0, by omega, rfl, rfl, Lib.hid rfl, Below.refl _ _⟩
  case round =>
    obtain ⟨k, s, hk, rfl, rfl, HS, hb⟩ := hrel
    by_cases hlt : k < n
    · rcases HI.out with h | ⟨b, o, rfl, hc⟩
      · have := HN.out; rw [h] at this; simp at this; omega
      have hkl : k < K.length := by rw [← HN.out]; exact hlt
      obtain ⟨x1, x2⟩ := hc k hkl
      have a1 := (hb.cell (p := ⟨b, o + k * 2, none⟩) (World.block_lt_of_cell? W0 _ x1)).trans x1
      have a2 := (hb.cell (p := ⟨b, o + k * 2 + 1, none⟩) (World.block_lt_of_cell? W0 _ x2)).trans x2
      have i1 : (k : Int) < (n : Int) := by omega
      have h6 := H64.out (K.getD k (0, 0)) (by rw [getD_at K _ hkl]; exact List.getElem_mem _)
      have hd := dsum_take K hkl
      have hnn := dsum_nn (K.take k)
      have hll := lenS_nn (K.getD k (0, 0))
      have hb1 := cut62_bd hnn
      rw [← HS.out] at hb1
      have hb2 := cut62_bd hll
      have HX : Hid (min s (4611686018427387904 - cut62 (lenS (K.getD k (0, 0)))) + cut62 (lenS (K.getD k (0, 0))) = cut62 (dsum (K.take (k + 1)))) := Lib.hid (by rw [HS.out, cut62_add hnn hll, hd])
      clear hc x1 x2 HS hd hnn hll hkl
      generalize K.getD k (0, 0) = t at *
      obtain ⟨x, y⟩ := t
      dsimp only at a1 a2 h6
      have e1 : (wr.alloc (.cells #[.int .i64 x, .int .i64 y] 34)).cell? ⟨wr.heap.size, 0, none⟩ = some (.int .i64 x) := by rw [World.cell?_alloc_new]; rfl
      have e2 : (wr.alloc (.cells #[.int .i64 x, .int .i64 y] 34)).cell? ⟨wr.heap.size, 1, none⟩ = some (.int .i64 y) := by rw [World.cell?_alloc_new]; rfl
      have e3 := hb.alloc hb.size (.cells #[.int .i64 x, .int .i64 y] 34)
      have HLc := Lib.hid (fun W c0 c1 c2 => Length3 x y wr.heap.size (.int .i64 x) (.int .i64 y) W0 W h6.1 h6.2 c0 c1 c2)
      generalize cut62 (lenS (x, y)) = l at *
      clear h6 hb
      have w1 : IntKind.i64.wrap (4611686018427387904 - l) = 4611686018427387904 - l := IntWalk.i64_in _ (by omega)
      have w2 : IntKind.i64.wrap (min s (4611686018427387904 - l) + l) = min s (4611686018427387904 - l) + l := IntWalk.i64_in _ (by omega)
      have hdr : ∀ W : World, Below W0.heap.size W0 W.drew = Below W0.heap.size W0 W := fun W => propext ⟨fun h => ⟨h.os, h.tape, h.output, h.size, h.block⟩, fun h => h.drew⟩
      go_wp2
      go_region_held3 (fun w' => w'.cell? ⟨wr.heap.size, 0, none⟩ = some (.int .i64 x) ∧ w'.cell? ⟨wr.heap.size, 1, none⟩ = some (.int .i64 y) ∧ Below W0.heap.size W0 w') (go_keep) (first | (go_at_call 27; refine (HLc.out _ ?_ ?_ ?_).mono ?_; (simp [*]); (simp [*]); (simp [*]); rintro e w' ⟨rfl, k1, k2, k3⟩))
      all_goals
        go_wp2
        exact ⟨⟨k + 1, _, by omega, by go_num, rfl, HX, by assumption⟩, by simp [RowKit.intOf]; omega⟩
    · obtain rfl : n = k := by omega
      have HE : Hid (s = cut62 (dsum K)) := Lib.hid (by rw [HS.out, HN.out, List.take_length])
      go_wp2
      go_ret
      obtain ⟨r1, r2, r3⟩ := HKK.out
      exact ⟨⟨K, r1, r2, r3, by rw [← HE.out]; rfl⟩, hb0.trans (hb.mono hb0.size)⟩


open Go Go.RowKit Go.Proofs

theorem kp1 {W0 w : World} {a : Addr} {v : Value} (x : W0.cell? a = some v) (h : Below W0.heap.size W0 w) : w.cell? a = some v ∧ Below W0.heap.size W0 w := ⟨(h.cell (World.block_lt_of_cell? W0 _ x)).trans x, h⟩
theorem kp2 {W0 w : World} {a b : Addr} {v u : Value} (x : W0.cell? a = some v) (y : W0.cell? b = some u) (h : Below W0.heap.size W0 w) : (w.cell? a = some v ∧ w.cell? b = some u) ∧ Below W0.heap.size W0 w := ⟨⟨(kp1 x h).1, (kp1 y h).1⟩, h⟩
theorem kp3 {W0 w : World} {a b c : Addr} {v u t : Value} (x : W0.cell? a = some v) (y : W0.cell? b = some u) (z : W0.cell? c = some t) (h : Below W0.heap.size W0 w) : (w.cell? a = some v ∧ w.cell? b = some u ∧ w.cell? c = some t) ∧ Below W0.heap.size W0 w := ⟨⟨(kp1 x h).1, (kp1 y h).1, (kp1 z h).1⟩, h⟩
theorem kb_drew {W0 : World} : Below W0.heap.size W0 W0.drew := (Below.refl _ _).drew
theorem kb_alloc {C : Prop} {W0 w : World} {o : Obj} (h : C ∧ Below W0.heap.size W0 w) : Below W0.heap.size W0 (w.alloc o) := h.2.alloc h.2.size o
theorem kb_al {W0 w : World} {o : Obj} (h : Below W0.heap.size W0 w) : Below W0.heap.size W0 (w.alloc o) := h.alloc h.size o
theorem kc {W0 w w' : World} (hb : Below w.heap.size w w') (h : Below W0.heap.size W0 w) : Below W0.heap.size W0 w' := h.trans (hb.mono h.size)
theorem kb_call {C : Prop} {W0 w w' : World} (hb : Below w.heap.size w w') (h : C ∧ Below W0.heap.size W0 w) : Below W0.heap.size W0 w' := h.2.trans (hb.mono h.2.size)
theorem new_cell (w : World) (v : Value) (t : TypeId) : (w.alloc (.cells #[v] t)).cell? ⟨w.heap.size, 0, none⟩ = some v := by rw [World.cell?_alloc_new]; rfl
theorem kb_set' {W0 w : World} {b j : Nat} {u : Value} (h : Below W0.heap.size W0 w) (hb : W0.heap.size ≤ b) : Below W0.heap.size W0 (w.setCell ⟨b, j, none⟩ u) := h.setCell (p := ⟨b, j, none⟩) hb u
theorem kb_set {C D : Prop} {W0 w x : World} {j : Nat} {u : Value} (h : C ∧ Below W0.heap.size W0 w) (hX : D ∧ Below W0.heap.size W0 x) : Below W0.heap.size W0 (w.setCell ⟨x.heap.size, j, none⟩ u) := h.2.setCell (p := ⟨x.heap.size, j, none⟩) hX.2.size u
theorem IsSet.kp {C : Prop} {W0 w : World} {N : Nat} {P : Int → Bool} {v : Value} (h : IsSet W0 N P v) (k : C ∧ Below W0.heap.size W0 w) : IsSet w N P v := h.below k.2 (Nat.le_refl _)
theorem SpansIn.kp {C : Prop} {W0 w : World} {p : Option Addr} {L : List Sp} (h : SpansIn W0 p L) (k : C ∧ Below W0.heap.size W0 w) : SpansIn w p L := h.below k.2 (Nat.le_refl _)
theorem DaysIn.kp {C : Prop} {W0 w : World} {p : Option Addr} {L : List Int} (h : DaysIn W0 p L) (k : C ∧ Below W0.heap.size W0 w) : DaysIn w p L := h.below k.2 (Nat.le_refl _)

theorem SpansIn.put {w : World} {p : Option Addr} {K : List Sp} {g j : Nat} {u v : Value} (h : SpansIn w p K) (x : w.cell? ⟨g, j, none⟩ = some u) (hf : ∀ a, p = some a → g < a.block) : SpansIn (w.setCell ⟨g, j, none⟩ v) p K ∧ (w.setCell ⟨g, j, none⟩ v).cell? ⟨g, j, none⟩ = some v :=
  ⟨h.far _ _ (fun a ha => by have := hf a ha; show g ≠ a.block; omega), World.cell?_setCell_same _ _ _ x⟩
theorem FreshV.at {B : Nat} {p : Option Addr} {n c : Nat} (h : FreshV B (.agg #[.slice p n c])) : ∀ a, p = some a → B ≤ a.block := h p n c rfl
theorem Of_set (p : Option Addr) (c : Nat) (L : List Sp) (w : World) (hn : L.length ≤ 10000) (h64 : ∀ s ∈ L, in64 s.1 ∧ in64 s.2) (h : SpansIn w p L) :
    Calls Tryd.prog 9 #[.slice p L.length c] w (SetPost (2 * L.length) (fun d => hasB L d) w) :=
  (Of_any p c L w hn h64 h).mono fun _ _ h => h.post
theorem spans_new (w : World) (L : List Sp) (E : TypeId) : SpansIn (w.alloc (.cells (spC L).toArray E)) (some ⟨w.heap.size, 0, none⟩) L := by
  refine .inr ⟨_, 0, rfl, fun j hj => ?_⟩
  obtain ⟨a, b⟩ := spC_at L j hj
  rw [Nat.zero_add, World.cell?_alloc_new, World.cell?_alloc_new]
  exact ⟨by simpa using a, by simpa using b⟩
theorem days_new (w : World) (L : List Int) (E : TypeId) : DaysIn (w.alloc (.cells (dyC L).toArray E)) (some ⟨w.heap.size, 0, none⟩) L := by
  refine .inr ⟨_, 0, rfl, fun j hj => ?_⟩
  rw [Nat.zero_add, World.cell?_alloc_new]
  simpa using dyC_at L j hj
theorem eqlSpan (x y x' y' : Int) (W : World) : (binOp .eql 34 (.agg #[.int .i64 x, .int .i64 y]) (.agg #[.int .i64 x', .int .i64 y'])).run Tryd.prog W = .ok (.bool (x == x' && y == y')) W := by
  rw [run_eql_struct, run_equalIn_agg W 9999 _ _ _ structSpan stoodSpan]
  obtain ⟨f, g, hfg, f1, f2, f3, g1, g2, g3⟩ := fieldsSpan
  rw [hfg]
  have hu := Tryd.underlying25
  cases h1 : (x == x') <;> cases h2 : (y == y') <;> simp [Op.eqFields, f1, f2, f3, g1, g2, g3, go_sem, part, hu, h1, h2]


open Go Go.RowKit Go.Proofs

theorem IsSet.none (w : World) : IsSet w 0 (fun _ => false) (.agg #[.slice none 0 0]) := ⟨[], Option.none, 0, rfl, Canon.nil, fun d => ⟨fun h => absurd h (Mem_nil _), fun h => by cases h⟩, (fun s hs => by cases hs), Nat.le_refl _, (fun a ha => by cases ha), .inl rfl⟩
theorem UnionK {v1 v2 : Value} {N M : Nat} {P Q : Int → Bool} {w : World} (h1 : IsSet w N P v1) (h2 : IsSet w M Q v2) (hN : N ≤ 10000) (hM : M ≤ 10000) :
    Calls Tryd.prog 13 #[v1, v2] w (SetPost (2 * N + 2 * M) (fun d => P d || Q d) w) := Union_any v1 v2 N M P Q w hN hM h1 h2
theorem MeetK {v1 v2 : Value} {N M : Nat} {P Q : Int → Bool} {w : World} (h1 : IsSet w N P v1) (h2 : IsSet w M Q v2) (hN : N ≤ 10000) (hM : M ≤ 10000) :
    Calls Tryd.prog 28 #[v1, v2] w (SetPost (2 * N + 2 * M) (fun d => P d && Q d) w) := Meet_any v1 v2 N M P Q w hN hM h1 h2
theorem MinusK {v1 v2 : Value} {N M : Nat} {P Q : Int → Bool} {w : World} (h1 : IsSet w N P v1) (h2 : IsSet w M Q v2) (hN : N ≤ 10000) (hM : M ≤ 10000) :
    Calls Tryd.prog 26 #[v1, v2] w (SetPost (2 * N + 2 * M) (fun d => P d && !Q d) w) := Minus_any v1 v2 N M P Q w hN hM h1 h2
theorem hasB_take {L : List Sp} {d : Int} {k : Nat} (h : k < L.length) : hasB (L.take (k + 1)) d = (hasB (L.take k) d || inB (L.getD k (0, 0)) d) := by
  rw [Bool.eq_iff_iff, Bool.or_eq_true, hasB_iff, hasB_iff, List.take_add_one, Mem_app, getD_at L _ h]
  simp [h, Mem_one, inB]
theorem canon_eq {K K' : List Sp} {P P' : Int → Bool} (k : Canon K) (k' : Canon K') (m : ∀ d, Mem K d ↔ P d = true) (m' : ∀ d, Mem K' d ↔ P' d = true) (h : ∀ d, P d = P' d) : K = K' :=
  canon_one k k' (fun d => by rw [m, m', h])
theorem canon_at {K : List Sp} (h : Canon K) : ∀ k, k < K.length → (K.getD k (0, 0)).1 < (K.getD k (0, 0)).2 ∧ (0 < k → (K.getD (k - 1) (0, 0)).2 < (K.getD k (0, 0)).1) := fun k hk => by
  rw [getD_at K _ hk]
  refine ⟨h.2 _ (List.getElem_mem _), fun h0 => ?_⟩
  rw [getD_at K _ (show k - 1 < K.length by omega)]
  exact List.pairwise_iff_getElem.1 h.1 (k - 1) k (by omega) hk (by omega)
theorem hasB_app (K L : List Sp) (d : Int) : hasB (K ++ L) d = (hasB K d || hasB L d) := by
  rw [Bool.eq_iff_iff, Bool.or_eq_true, hasB_iff, hasB_iff, hasB_iff, Mem_app]
theorem SetPost.congr {N : Nat} {P Q : Int → Bool} {w : World} {e : Ending} {w' : World} (h : SetPost N P w e w') (hPQ : ∀ d, P d = Q d) : SetPost N Q w e w' := by
  obtain ⟨v, h1, h2, h3, h4⟩ := h
  exact ⟨v, h1, h2.congr hPQ (Nat.le_refl _), h3, h4⟩
theorem src_of {w : World} {q : Option Addr} {c : Nat} {M : List Sp} (h : SpansIn w q M) (h0 : q = none → c = 0) : q = none ∧ M.length = 0 ∧ c = 0 ∨ ∃ a, q = some a ∧ ∀ j u, (spC M)[j]? = some u → w.cell? (a.add j) = some u := by
  cases q with
  | none =>
    rcases h with rfl | ⟨b, o, h, _⟩
    · exact .inl ⟨rfl, rfl, h0 rfl⟩
    · cases h
  | some a =>
    refine .inr ⟨a, rfl, fun j u hu => ?_⟩
    have hj : j < M.length * 2 := by rw [← spC_len]; exact (List.getElem?_eq_some_iff.1 hu).1
    rcases h with rfl | ⟨b, o, hp, hc⟩
    · simp at hj
    · injection hp with hp
      subst hp
      obtain ⟨a1, a2⟩ := spC_at M (j / 2) (by omega)
      obtain ⟨c1, c2⟩ := hc (j / 2) (by omega)
      rw [Addr.add_lit]
      rcases (show j = j / 2 * 2 ∨ j = j / 2 * 2 + 1 by omega) with e | e
      · rw [e] at hu ⊢; rw [a1] at hu; rw [c1]; exact hu
      · rw [e] at hu ⊢; rw [a2] at hu; rw [← Nat.add_assoc, c2]; exact hu

end Go.Proofs.YtogdiiengbmiiaaDoor.Sp
