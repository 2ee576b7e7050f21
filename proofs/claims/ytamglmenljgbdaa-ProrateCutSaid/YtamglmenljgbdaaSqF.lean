/-
  What is proved: the contracts of span.together and of Union, Meet and Minus of sets. Conditions: at most 10000 spans each, of 64 bits, which lie in memory as the contract says.
-/
import Derived.Test.YtamglmenljgbdaaSqE
namespace Go.Proofs.Ytamglmenljgbdaa.Sp
open Go Go.RowKit Go.Proofs

/-- A set of days, as a value. -/
def IsSet (w : World) (N : Nat) (P : Int → Bool) (v : Value) : Prop :=
  ∃ (K : List Sp) (p : Option Addr) (c : Nat), v = .agg #[.slice p K.length c] ∧ Canon K ∧ (∀ d, Mem K d ↔ P d = true) ∧ (∀ s ∈ K, in64 s.1 ∧ in64 s.2) ∧ K.length ≤ N ∧ (∀ a, p = some a → a.spot = none) ∧ SpansIn w p K
theorem IsSet.below {w w' : World} {N B : Nat} {P : Int → Bool} {v : Value} (h : IsSet w N P v) (hb : Below B w w') (hB : w.heap.size ≤ B) : IsSet w' N P v := by
  obtain ⟨K, p, c, h1, h2, h3, h4, h5, h6, h7⟩ := h
  exact ⟨K, p, c, h1, h2, h3, h4, h5, h6, h7.below hb hB⟩
theorem IsSet.congr {w : World} {N M : Nat} {P Q : Int → Bool} {v : Value} (h : IsSet w N P v) (hP : ∀ d, P d = Q d) (hN : N ≤ M) : IsSet w M Q v := by
  obtain ⟨K, p, c, h1, h2, h3, h4, h5, h6, h7⟩ := h
  exact ⟨K, p, c, h1, h2, fun d => by rw [← hP]; exact h3 d, h4, by omega, h6, h7⟩
/-- The set's memory was made from block B on. -/
def FreshV (B : Nat) (v : Value) : Prop := ∀ p n c, v = .agg #[.slice p n c] → ∀ a, p = some a → B ≤ a.block
/-- A call that returns a set. -/
def SetPost (N : Nat) (P : Int → Bool) (w : World) (e : Ending) (w' : World) : Prop := ∃ v, e = .returned v ∧ IsSet w' N P v ∧ Below w.heap.size w w' ∧ FreshV w.heap.size v
theorem FreshV.mk {B : Nat} {p : Option Addr} {n c : Nat} (h : ∀ a, p = some a → B ≤ a.block) : FreshV B (.agg #[.slice p n c]) := fun p' n' c' he a ha => by
  simp at he
  obtain ⟨rfl, -, -⟩ := he
  exact h a ha
theorem SetOwn.post {N : Nat} {P : Int → Bool} {w : World} {e : Ending} {w' : World} (h : SetOwn w.heap.size N P w e w') : SetPost N P w e w' := by
  obtain ⟨K, p, c, h1, h2, h3, h4, h5, -, h6, h7, h8⟩ := h
  exact ⟨_, h1, ⟨K, p, c, rfl, h2, h3, h4, h5, fun a ha => (h6 a ha).2, h7⟩, h8, .mk (fun a ha => (h6 a ha).1)⟩
theorem hasB_of {K : List Sp} {P : Int → Bool} (h : ∀ d, Mem K d ↔ P d = true) (d : Int) : hasB K d = P d := by
  have h1 := h d
  rw [← hasB_iff] at h1
  cases e : hasB K d <;> cases e2 : P d <;> simp_all
theorem EvsIn.kept {w w' : World} {p : Option Addr} {L : List Ev} {row : Option Nat} (h : EvsIn w p L) (hg : w.grownBy w' row) (hne : ∀ a, p = some a → row ≠ some a.block) : EvsIn w' p L := by
  rcases h with h | ⟨b, o, rfl, hc⟩
  · exact .inl h
  · have hb := hne _ rfl
    refine .inr ⟨b, o, rfl, fun j hj => ?_⟩
    obtain ⟨h1, h2, h3⟩ := hc j hj
    exact ⟨hg.cell h1 (Ne.symm hb), hg.cell h2 (Ne.symm hb), hg.cell h3 (Ne.symm hb)⟩
theorem new_unfrozen (X : World) (cs : Array Value) (t : TypeId) (j : Nat) : (X.alloc (.cells cs t)).frozen? ⟨X.heap.size, j, none⟩ = false := by simp [World.frozen?_alloc_mark]
def toR (e : Ev) : Ev := (e.1, 0, e.2.1)
theorem endsR_map (L : List Sp) : endsR L = (endsL L).map toR := endsR_of L

set_option maxHeartbeats 2000000 in
set_option maxRecDepth 100000 in
theorem together_any (g : Nat) (kp : Bool → Bool → Bool) (p1 p2 : Option Addr) (c1 c2 : Nat) (K1 K2 : List Sp) (w : World) (n1 : K1.length ≤ 10000) (n2 : K2.length ≤ 10000) (a64 : ∀ s ∈ K1, in64 s.1 ∧ in64 s.2) (b64 : ∀ s ∈ K2, in64 s.1 ∧ in64 s.2) (h1 : SpansIn w p1 K1) (h2 : SpansIn w p2 K2) (hkp : kp false false = false)
    (eg : ∀ args w, (callFunc g args).run Try.prog w = .ok (.enter g args) w) (hk : ∀ a b W, Calls Try.prog g #[.bool a, .bool b] W fun e w' => e = .returned (.bool (kp a b)) ∧ W = w') :
    Calls Try.prog 49 #[.agg #[.slice p1 K1.length c1], .agg #[.slice p2 K2.length c2], .func (.func g) #[] #[]] w (SetOwn w.heap.size (2 * K1.length + 2 * K2.length) (fun d => kp (hasB K1 d) (hasB K2 d)) w) := by
  obtain ⟨W3, hW3⟩ : ∃ W3, W3 = ((w.alloc (.cells #[.slice p1 K1.length c1] 58)).alloc (.cells #[.slice p2 K2.length c2] 58)).alloc (.cells #[.slice none 0 0] 58) := ⟨_, rfl⟩
  have hb0 : Below w.heap.size w W3 := by rw [hW3]; exact (((Below.refl w.heap.size w).alloc (Nat.le_refl _) _).alloc (by simp) _).alloc (by simp; omega) _
  have hz0 : W3.heap.size = w.heap.size + 3 := by rw [hW3]; simp
  have q1 : W3.cell? ⟨w.heap.size, 0, none⟩ = some (.slice p1 K1.length c1) := by
    rw [hW3, World.cell?_alloc_lt _ _ _ (by simp; omega), World.cell?_alloc_lt _ _ _ (by simp), World.cell?_alloc_new]; rfl
  have hzb : ((w.alloc (.cells #[.slice p1 K1.length c1] 58)).alloc (.cells #[.slice p2 K2.length c2] 58)).heap.size = w.heap.size + 1 + 1 := by simp
  have hza : (w.alloc (.cells #[.slice p1 K1.length c1] 58)).heap.size = w.heap.size + 1 := by simp
  have q2 : W3.cell? ⟨w.heap.size + 1, 0, none⟩ = some (.slice p2 K2.length c2) := by
    rw [hW3, World.cell?_alloc_lt _ _ _ (by simp), ← hza, World.cell?_alloc_new]; rfl
  have q3 : W3.cell? ⟨w.heap.size + 1 + 1, 0, none⟩ = some (.slice none 0 0) := by
    rw [hW3, ← hzb, World.cell?_alloc_new]; rfl
  have f3 : W3.frozen? ⟨w.heap.size + 1 + 1, 0, none⟩ = false := by
    rw [hW3, ← hzb]; exact new_unfrozen _ _ _ _
  clear hza hzb
  have HE1 := Lib.hid (leftEnds_any p1 c1 K1 W3 (by omega) (h1.below hb0 (Nat.le_refl _)))
  have H2 := Lib.hid (h2.below hb0 (Nat.le_refl _))
  have l1 := endsL_len K1
  have l2 := endsL_len K2
  have HK := Lib.hid hk
  have A64 := Lib.hid a64
  have B64 := Lib.hid b64
  have HKP := Lib.hid hkp
  clear h1 h2 hk a64 b64 hkp
  go_enter Try.func49, Try.ntmps49
  go_wp2_with fail
  rw [← hW3]
  clear hW3
  refine (HE1.out).mono ?_
  rintro e W4 ⟨v1, rfl, ho1, hb1⟩
  have hz1 := hb1.size
  have r2 := (hb1.cell (p := ⟨w.heap.size + 1, 0, none⟩) (by show w.heap.size + 1 < _; omega)).trans q2
  have HE2 := Lib.hid (leftEnds_any p2 c2 K2 W4 (by omega) (H2.out.below hb1 (Nat.le_refl _)))
  have HO1 := Lib.hid ho1
  clear HE1 H2 ho1
  go_wp2_with fail
  refine (HE2.out).mono ?_
  rintro e W5 ⟨v2, rfl, ho2, hb2⟩
  have hz2 := hb2.size
  have HO2 := Lib.hid (own_below HO1.out hb2 (Nat.le_refl _))
  obtain ⟨e2, ce2, rfl, -⟩ := own_slice ho2
  have HI2 := Lib.hid (EvsIn.of_own ho2)
  have HG2 : Hid (∀ a, e2 = some a → v1.ownBlock ≠ some a.block) := Lib.hid (fun a ha h => by
    subst ha
    have h3 := (ho2.lt a.block rfl).1
    have h4 := (HO1.out.lt a.block h).2
    omega)
  have HGS : Hid (∀ a, e2 = some a → a.block < W5.heap.size) := Lib.hid (fun a ha => by subst ha; exact (ho2.lt a.block rfl).2)
  have hb3 := hb1.trans (hb2.mono hz1)
  obtain ⟨m1, hm1⟩ : ∃ m1, m1 = (endsL K1).length := ⟨_, rfl⟩
  obtain ⟨m2, hm2⟩ : ∃ m2, m2 = (endsL K2).length := ⟨_, rfl⟩
  rw [← hm1] at HO2
  rw [← hm2]
  have M1 := Lib.hid hm1
  have M2 := Lib.hid hm2
  have b1 : m1 ≤ 2 * K1.length := by omega
  have b2 : m2 ≤ 2 * K2.length := by omega
  clear hm1 hm2 l1 l2 ho2 hb1 hb2 HE2 HO1 q1 q2 r2 hz1
  go_wp2
  go_loopw [7, 9, 17] (fun vv _ kv wr => ∃ (k : Nat) (u : Value), k ≤ m2 ∧ kv = .int .i64 k ∧ u = vv ∧ W5.heap.size ≤ wr.heap.size ∧ Hid (wr.ownsRow W3.heap.size 103 3 u (m1 + k) (evC (endsL K1 ++ ((endsL K2).take k).map toR))) ∧ Hid (∀ a, e2 = some a → u.ownBlock ≠ some a.block) ∧ Hid (EvsIn wr e2 (endsL K2)) ∧ Below W3.heap.size W3 wr) (fun _ _ kv _ => m2 - (RowKit.intOf kv).toNat)
  case atStart => exact ⟨0, _, by omega, rfl, rfl, Nat.le_refl _, Lib.hid (by simpa using HO2.out), HG2, HI2, hb3⟩
  case round =>
    obtain ⟨k, u, hk, rfl, rfl, hsz, HO, HG, HI, hb⟩ := hrel
    clear HO2 HG2 HI2 hb3
    by_cases hlt : k < m2
    · have hlt' : k < (endsL K2).length := by rw [← M2.out]; exact hlt
      have htk := take_next (endsL K2) (0, 0, 0) hlt'
      rcases HI.out with h | ⟨b, o, rfl, hc⟩
      · rw [h] at hlt'; simp at hlt'
      obtain ⟨x1, x2, x3⟩ := hc k hlt'
      have i1 : (k : Int) < (m2 : Int) := by omega
      have HT := Lib.hid htk
      clear hc htk hlt'
      generalize (endsL K2).getD k (0, 0, 0) = s at x1 x2 x3 HT
      obtain ⟨x, y, z⟩ := s
      dsimp only at x1 x2 x3
      have hb1 := hb.alloc hb.size (.cells #[.int .i64 x, .int .i64 y, .int .i64 z] 103)
      have HO1 := Lib.hid (HO.out.alloc (.cells #[.int .i64 x, .int .i64 y, .int .i64 z] 103))
      have HI1 := Lib.hid (HI.out.below ((Below.refl wr.heap.size wr).alloc (Nat.le_refl _) (.cells #[.int .i64 x, .int .i64 y, .int .i64 z] 103)) (Nat.le_refl _))
      have hbs := HGS.out _ rfl
      clear HO HI hb
      go_wp2_with (at_builtin; refine app_arm_at Try.underlying77 infoEnd rfl (by omega) (by omega) W3.heap.size (wr.alloc (.cells #[.int .i64 x, .int .i64 y, .int .i64 z] 103)) _ (m1 + k) _ HO1.out 1 [.int .i64 x, .int .i64 0, .int .i64 y] rfl (evC_one (L := [(x, 0, y)])) (by omega) hb1.size rfl _ _ rfl rfl (by rw [World.size_alloc]; rfl) ?_; intro v' w3 ho hg hat; have HO3 := Lib.hid ho; have HGR := Lib.hid hg; have HAT := Lib.hid hat; clear ho hg hat)
      have hfa := (Below.refl (wr.alloc (.cells #[.int .i64 x, .int .i64 y, .int .i64 z] 103)).heap.size (wr.alloc (.cells #[.int .i64 x, .int .i64 y, .int .i64 z] 103))).alloc (Nat.le_refl _) (.cells [.int .i64 x, .int .i64 0, .int .i64 y].toArray 103)
      have hs1 : (wr.alloc (.cells #[.int .i64 x, .int .i64 y, .int .i64 z] 103)).heap.size = wr.heap.size + 1 := by simp
      have hs2 := hfa.size
      have hs3 := HGR.out.size
      refine ⟨⟨k + 1, v', by omega, by go_num, rfl, by omega, Lib.hid ?_, Lib.hid (fun a ha h => ?_), Lib.hid (EvsIn.kept (HI1.out.below hfa (Nat.le_refl _)) HGR.out (fun a ha => HG.out a ha)), (hb1.alloc hb1.size _).grown HGR.out (by have := hb1.size; omega) (fun q hq => (HO1.out.lt q hq).1)⟩, by simp [RowKit.intOf]; omega⟩
      · rw [HT.out, List.map_append, ← List.append_assoc, evC_app]
        exact HO3.out
      · injection ha with ha
        subst ha
        rcases HAT.out with h2 | h2
        · exact HG.out _ rfl (h2.symm.trans h)
        · rw [h2] at h
          injection h with h
          have : b = (wr.alloc (.cells #[.int .i64 x, .int .i64 y, .int .i64 z] 103)).heap.size + 1 := h.symm
          have hbs' : b < W5.heap.size := hbs
          omega
    · obtain rfl : m2 = k := by omega
      have hall : ((endsL K2).take m2).map toR = endsR K2 := by rw [M2.out, List.take_length, endsR_map]
      rw [hall] at HO
      have hlE : (endsL K1 ++ endsR K2).length = m1 + m2 := by rw [List.length_append, endsR_map, List.length_map, ← M1.out, ← M2.out]
      have hbsz := hb.size
      have HW := Lib.hid (walk_any W3.heap.size g kp u (endsL K1 ++ endsR K2) K1 K2 wr rfl (by omega) HKP.out (fun e he => by
        rcases List.mem_append.1 he with he | he
        · exact endsL_in64 A64.out e he
        · rw [endsR_map] at he
          obtain ⟨e', he', rfl⟩ := List.mem_map.1 he
          exact endsL_in64 B64.out e' he') (fun e he => by
        rcases List.mem_append.1 he with he | he
        · have := endsL_bd e he; omega
        · rw [endsR_map] at he
          obtain ⟨e', he', rfl⟩ := List.mem_map.1 he
          have := endsL_bd e' he'
          simp only [toR]
          omega) (by rw [hlE]; exact HO.out) hbsz eg HK.out)
      rw [hlE] at HW
      have x1 := (hb.cell (p := ⟨w.heap.size + 1 + 1, 0, none⟩) (by show w.heap.size + 1 + 1 < _; omega)).trans q3
      have f1 := (hb.frozen (p := ⟨w.heap.size + 1 + 1, 0, none⟩) (by show w.heap.size + 1 + 1 < _; omega)).trans f3
      have hbw := hb0.trans (hb.mono (by omega))
      clear HO HG HI hb hall hlE hlt hk HGS
      go_wp2_with fail
      refine (HW.out).mono ?_
      rintro e w2 ⟨K, q, cq, rfl, hK, hM, h64, hKl, hcq, hqb, hsp, hb2⟩
      have x2 := (hb2.cell (p := ⟨w.heap.size + 1 + 1, 0, none⟩) (by show w.heap.size + 1 + 1 < _; omega)).trans x1
      have f2 := (hb2.frozen (p := ⟨w.heap.size + 1 + 1, 0, none⟩) (by show w.heap.size + 1 + 1 < _; omega)).trans f1
      have hb3 := (hbw.trans (hb2.mono (by omega))).setCell (p := ⟨w.heap.size + 1 + 1, 0, none⟩) (by show w.heap.size ≤ w.heap.size + 1 + 1; omega) (.slice q K.length cq)
      have hsp3 := hsp.far ⟨w.heap.size + 1 + 1, 0, none⟩ (.slice q K.length cq) (fun a ha => by have := (hqb a ha).1; show w.heap.size + 1 + 1 ≠ a.block; omega)
      have x3 : (w2.setCell ⟨w.heap.size + 1 + 1, 0, none⟩ (.slice q K.length cq)).cell? ⟨w.heap.size + 1 + 1, 0, none⟩ = some (.slice q K.length cq) := World.cell?_setCell_same _ _ _ x2
      have HR : Hid (Canon K ∧ (∀ d, Mem K d ↔ kp (hasB K1 d) (hasB K2 d) = true) ∧ (∀ s ∈ K, in64 s.1 ∧ in64 s.2) ∧ K.length ≤ 2 * K1.length + 2 * K2.length ∧ K.length ≤ cq ∧ (∀ a, q = some a → w.heap.size ≤ a.block ∧ a.spot = none)) := Lib.hid ⟨hK, hM, h64, by omega, hcq, fun a ha => ⟨by have := (hqb a ha).1; omega, (hqb a ha).2⟩⟩
      have HS := Lib.hid hsp3
      clear hK hM h64 hKl hcq hqb hsp hb2 hbw HW hsp3 x1 f1 hb0
      go_wp2
      refine bodyPost_ret (v := .agg #[.slice q K.length cq]) (by simp [results, Try.results49, go_sem, x3]) rfl ?_
      obtain ⟨r1, r2, r3, r4, r5, r6⟩ := HR.out
      exact ⟨K, q, cq, rfl, r1, r2, r3, r4, r5, r6, HS.out, hb3⟩

end Go.Proofs.Ytamglmenljgbdaa.Sp
