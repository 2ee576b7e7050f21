/-
  What is proved: the contract of the document's own spans of a calendar's year. Conditions: the calendar and the year are right.
-/
import Derived.Test.YtfmabjfibjnkoaaDoorPdR
import Derived.Lib.AppendZeros
namespace Go.Proofs.YtfmabjfibjnkoaaDoor
open Go Go.RowKit Go.Proofs
set_option linter.unusedVariables false

/-- Spans as cells, and in memory. -/
def spC (L : List (Int × Int)) : List Value := L.flatMap (fun s => [.int .i64 s.1, .int .i64 s.2])
theorem spC_len : ∀ L, (spC L).length = L.length * 2
  | [] => rfl
  | s :: r => by show (spC r).length + 2 = _; rw [spC_len r]; simp; omega
theorem spC_app (K L : List (Int × Int)) : spC (K ++ L) = spC K ++ spC L := by simp [spC]
theorem spC_at : ∀ (L : List (Int × Int)) (j : Nat), j < L.length → (spC L)[j * 2]? = some (.int .i64 (L.getD j (0, 0)).1) ∧ (spC L)[j * 2 + 1]? = some (.int .i64 (L.getD j (0, 0)).2)
  | s :: r, 0, _ => ⟨rfl, rfl⟩
  | s :: r, j + 1, h => by
    obtain ⟨a, b⟩ := spC_at r j (by simpa using h)
    rw [show (j + 1) * 2 = j * 2 + 2 by omega]
    exact ⟨a, b⟩
def SpIn (w : World) (p : Option Addr) (L : List (Int × Int)) : Prop :=
  L = [] ∨ ∃ b o, p = some ⟨b, o, none⟩ ∧ ∀ j, j < L.length → w.cell? ⟨b, o + j * 2, none⟩ = some (.int .i64 (L.getD j (0, 0)).1) ∧ w.cell? ⟨b, o + j * 2 + 1, none⟩ = some (.int .i64 (L.getD j (0, 0)).2)
theorem SpIn.below {w w' : World} {p : Option Addr} {L : List (Int × Int)} (h : SpIn w p L) (hb : Below w.heap.size w w') : SpIn w' p L := by
  rcases h with h | ⟨b, o, rfl, hc⟩
  · exact .inl h
  · exact .inr ⟨b, o, rfl, fun j hj => ⟨stay hb (hc j hj).1, stay hb (hc j hj).2⟩⟩
theorem SpIn.of_own {w : World} {base : Nat} {E : TypeId} {p : Option Addr} {n c : Nat} {L : List (Int × Int)} (h : w.ownsRow base E 2 (.slice p n c) L.length (spC L)) : SpIn w p L := by
  by_cases e : L.length = 0
  · exact .inl (List.eq_nil_of_length_eq_zero e)
  · obtain ⟨g, c', hv, -, -, -, hc, -⟩ := own_cells h (by omega)
    injection hv with hv
    subst hv
    refine .inr ⟨g, 0, rfl, fun j hj => ?_⟩
    obtain ⟨a, b⟩ := spC_at L j hj
    rw [Nat.zero_add]
    exact ⟨hc _ _ a, hc _ _ b⟩
theorem infoSpan : (Tryd.prog.info? 28).map (fun i => (i.zero, i.size, i.bytes)) = some (some (.agg #[.int .i64 0, .int .i64 0]), 2, 16) := by kernel_rfl
/-- append of elements that were built for it. -/
theorem app_new {T E : TypeId} {z : Value} {s b : Nat} (hT : Tryd.prog.underlying T = some (.slice E)) (hI : (Tryd.prog.info? E).map (fun i => (i.zero, i.size, i.bytes)) = some (some z, s, b)) (hz : z.cells.size = s) (hs : 0 < s) (hb : b ≤ 64) (base : Nat) (ty : TypeId) (w : World) (v : Value) (n : Nat) (xs : List Value) (hown : w.ownsRow base E s v n xs)
    (m : Nat) (news : List Value) (hl : news.length = m * s) (h1 : ∀ u ∈ news, u.oneCell' = true) (hn : n + m ≤ 1000000) (hbase : base ≤ w.heap.size) :
    ∃ v' w', (Builtin.append_ #[T, T] ty #[v, .slice (some ⟨w.heap.size, 0, none⟩) m m]).run Tryd.prog (w.alloc (.cells news.toArray E)) = .ok v' w' ∧ w'.ownsRow base E s v' (n + m) (xs ++ news) ∧ (w.alloc (.cells news.toArray E)).grownBy w' v.ownBlock ∧ (v'.ownBlock = v.ownBlock ∨ v'.ownBlock = some (w.heap.size + 1)) := by
  obtain ⟨i, hi, hz0, hz1, hz2⟩ := info_of hI
  have hm : (n + m) * b ≤ 1000000 * 64 := Nat.mul_le_mul hn hb
  obtain ⟨v', w', h1, h2, h3, _, h4⟩ := run_append_own_at (P := Tryd.prog) (w.alloc (.cells news.toArray E)) base T ty E i z s b hT hi hz0 hz1 hz2 hz hs v n xs (hown.alloc _) ⟨w.heap.size, 0, none⟩ m m news hl
    (fun j u hu => by rw [add_at, World.cell?_alloc_new]; simpa using hu)
    h1 (by unfold maxLen; omega) (by omega) (by simp; omega)
  exact ⟨v', w', h1, h2, h3, by simpa using h4⟩
theorem app_arm {T E : TypeId} {z : Value} {s b : Nat} (hT : Tryd.prog.underlying T = some (.slice E)) (hI : (Tryd.prog.info? E).map (fun i => (i.zero, i.size, i.bytes)) = some (some z, s, b)) (hz : z.cells.size = s) (hs : 0 < s) (hb : b ≤ 64) (base : Nat) (w : World) (v : Value) (n : Nat) (xs : List Value) (hown : w.ownsRow base E s v n xs)
    (m : Nat) (news : List Value) (hl : news.length = m * s) (h1 : ∀ u ∈ news, u.oneCell' = true) (hn : n + m ≤ 1000000) (hbase : base ≤ w.heap.size)
    {ops : Array Oper} {rest : List Oper} {o : Oper} {a : Act} {Q : Exit → Act → World → Prop} (hgd : o.guard = none) (sO xO : Operand) (ho : o.op = .call { callee := .builtin .append, args := #[sO, xO], argTypes := #[T, T] }) (hv : a.eval sO = v) (hx : a.eval xO = .slice (some ⟨w.heap.size, 0, none⟩) m m)
    (h : ∀ v' w', w'.ownsRow base E s v' (n + m) (xs ++ news) → (w.alloc (.cells news.toArray E)).grownBy w' v.ownBlock → wpList Tryd.prog ops Q rest (a.put o.dst v') w') : wpList Tryd.prog ops Q (o :: rest) a (w.alloc (.cells news.toArray E)) := by
  obtain ⟨v', w', hr, h2, h3, -⟩ := app_new hT hI hz hs hb base o.type w v n xs hown m news hl h1 hn hbase
  exact Lib.wpList_append_run _ hgd sO xO T T ho v _ hv hx v' w' hr (h v' w' h2 h3)

/-- Those spans of a year that begin ahead of a day. -/
def UpD (k f y d : Int) (K : List (Int × Int)) : Prop := K.Pairwise (fun s t => s.1 < t.1) ∧ ∀ s, s ∈ K ↔ Ends k f y s.1 s.2 ∧ s.1 < d
theorem UpD.start {k f y d : Int} (h : ∀ a b, Ends k f y a b → d ≤ a) : UpD k f y d [] := ⟨List.Pairwise.nil, fun s => ⟨(fun h => by cases h), fun ⟨h1, h2⟩ => by have := h _ _ h1; omega⟩⟩
theorem UpD.add {k f y d b : Int} {K : List (Int × Int)} (h : UpD k f y d K) (hE : Ends k f y d b) : UpD k f y (d + 1) (K ++ [(d, b)]) := by
  refine ⟨?_, fun s => ?_⟩
  · rw [List.pairwise_append]
    refine ⟨h.1, List.pairwise_singleton _ _, fun s hs t ht => ?_⟩
    obtain rfl := List.mem_singleton.1 ht
    exact ((h.2 s).1 hs).2
  · rw [List.mem_append, List.mem_singleton, h.2 s]
    constructor
    · rintro (⟨g1, g2⟩ | rfl)
      · exact ⟨g1, by omega⟩
      · exact ⟨hE, by dsimp only; omega⟩
    · rintro ⟨g1, g2⟩
      rcases Int.lt_or_le s.1 d with h3 | h3
      · exact .inl ⟨g1, h3⟩
      · have e : s.1 = d := by omega
        have l := g1.1.len
        have l' := hE.1.len
        have := Blk.one (d := d) g1.1 hE.1 (by omega) (by omega) (by omega) (by omega)
        exact .inr (Prod.ext this.1 this.2)
theorem UpD.skip {k f y d : Int} {K : List (Int × Int)} (h : UpD k f y d K) (hE : ∀ b, ¬ Ends k f y d b) : UpD k f y (d + 1) K := by
  refine ⟨h.1, fun s => ?_⟩
  rw [h.2 s]
  constructor
  · rintro ⟨g1, g2⟩; exact ⟨g1, by omega⟩
  · rintro ⟨g1, g2⟩
    rcases Int.lt_or_le s.1 d with h3 | h3
    · exact ⟨g1, h3⟩
    · have e : s.1 = d := by omega
      rw [e] at g1
      exact absurd g1 (hE _)
theorem UpD.done {k f y d : Int} {K : List (Int × Int)} (h : UpD k f y d K) (hE : ∀ a b, Ends k f y a b → a < d) : IsYear k f y K := ⟨h.1, fun s => by
  rw [h.2 s]
  exact ⟨fun g => g.1, fun g => ⟨g, hE _ _ g⟩⟩⟩
theorem UpD.len {k f y d : Int} {K : List (Int × Int)} (h : UpD k f y d K) : K.length ≤ 400 := by
  have h3 := jan_succ y
  have := lp_bd y
  have := rows_len (lo := jan y - 31) (hi := jan (y + 1)) h.1 fun s hs => by
    obtain ⟨⟨b, -, -, c, d⟩, -⟩ := (h.2 s).1 hs
    have := b.len
    omega
  omega
theorem ends_days {k f y a b : Int} (hk : k = 1 ∨ k = 2) (h : Ends k f y a b) : b = a + 14 * k ∧ (a - f) % (14 * k) = 0 := by
  rcases h.1 with ⟨h0, -⟩ | ⟨-, e, m⟩
  · omega
  · exact ⟨e, m⟩

def SpPost (k f y : Int) (w : World) (e : Ending) (w' : World) : Prop := ∃ (K : List (Int × Int)) (p : Option Addr) (c : Nat), IsYear k f y K ∧ e = .returned (.slice p K.length c) ∧ SpIn w' p K ∧ Below w.heap.size w w'
set_option maxHeartbeats 4000000 in
set_option maxRecDepth 100000 in
theorem spans_month (f l y : Int) (w : World) (hy1 : 1900 ≤ y) (hy2 : y ≤ 2199) : Calls Tryd.prog 33 #[.agg #[.int .i64 0, .int .i64 f, .int .i64 l], .int .i64 y] w (SpPost 0 f y w) := by
  obtain ⟨W1, hW1⟩ : ∃ W1, W1 = w.alloc (.cells #[.int .i64 0, .int .i64 f, .int .i64 l] 39) := ⟨_, rfl⟩
  have hb0 : Below w.heap.size w W1 := by rw [hW1]; exact (Below.refl w.heap.size w).alloc (Nat.le_refl _) _
  have x0 : W1.cell? ⟨w.heap.size, 0, none⟩ = some (.int .i64 0) := by rw [hW1, World.cell?_alloc_new]; rfl
  have HBG := Lib.hid (fun m h1 h2 W => begin_any y m hy1 (by omega) h1 h2 W)
  have HML := Lib.hid (month_list f y hy1 hy2)
  have hO : Hid (W1.ownsRow W1.heap.size 28 2 (.slice none 0 0) 0 []) := Lib.hid (World.ownsRow_nil _ _ _ _)
  obtain ⟨g, hg⟩ : ∃ g : Nat → Int × Int, g = fun (j : Nat) => (jan y + cum y ((j : Int) + 1), jan y + cum y ((j : Int) + 2)) := ⟨_, rfl⟩
  rw [← hg] at HML
  have HG : Hid (∀ q : Int, 1 ≤ q → g (q - 1).toNat = (jan y + cum y q, jan y + cum y (q + 1))) := Lib.hid (fun q h => by
    rw [hg]
    dsimp only
    rw [show (((q - 1).toNat : Nat) : Int) + 1 = q by omega, show (((q - 1).toNat : Nat) : Int) + 2 = q + 1 by omega])
  clear hg
  rw [hW1] at x0
  go_enter Tryd.func33, Tryd.ntmps33
  go_wp2
  rw [← hW1]
  clear hW1 x0
  go_loopw [5, 6] (fun lv mv wr => ∃ (j : Nat) (q : Int), 1 ≤ q ∧ q ≤ 13 ∧ mv = .int .i64 q ∧ Hid (q = (j : Int) + 1) ∧ j ≤ 12 ∧ Hid (wr.ownsRow W1.heap.size 28 2 lv j (spC ((List.range j).map g))) ∧ Below W1.heap.size W1 wr) (fun _ mv _ => (13 - RowKit.intOf mv).toNat)
  case atStart => exact ⟨0, 1, by omega, by omega, rfl, Lib.hid rfl, by omega, hO, Below.refl _ _⟩
  case round =>
    clear hO
    obtain ⟨j, q, q1, q2, rfl, HQ, hj, HO, hb⟩ := hrel
    obtain ⟨p, c, rfl, -⟩ := own_slice HO.out
    by_cases hlt : q ≤ 12
    · go_wp2_with fail
      refine (HBG.out q q1 (by omega) _).mono ?_
      rintro e w3 ⟨rfl, hb3⟩
      go_wp2_with fail
      refine (HBG.out (q + 1) (by omega) (by omega) _).mono ?_
      rintro e w4 ⟨rfl, hb4⟩
      have hb34 := hb3.trans (hb4.mono hb3.size)
      have HO4 := Lib.hid (own_below HO.out hb34 (Nat.le_refl _))
      have hb5 := hb.trans (hb34.mono hb.size)
      have hB5 := hb5.size
      have HG2 : Hid (g j = (jan y + cum y q, jan y + cum y (q + 1))) := Lib.hid (by have := HG.out q q1; rwa [show (q - 1).toNat = j by have := HQ.out; omega] at this)
      have hj12 : j < 12 := by have := HQ.out; omega
      clear hb3 hb4 hb34 HO hb
      generalize jan y + cum y q = a at *
      generalize jan y + cum y (q + 1) = b at *
      go_wp2_with (at_builtin; refine app_arm Tryd.underlying70 infoSpan rfl (by omega) (by omega) W1.heap.size w4 _ j _ HO4.out 1 [.int .i64 a, .int .i64 b] rfl (fun u hu => by simp at hu; rcases hu with rfl | rfl <;> rfl) (by omega) hB5 rfl _ _ rfl rfl rfl ?_; intro v' w6 ho hgr)
      have hb6 : Below W1.heap.size W1 w6 := (hb5.alloc hB5 _).grown hgr (by simp; omega) (fun k hk => (HO4.out.lt k hk).1)
      have ho2 : w6.ownsRow W1.heap.size 28 2 v' (j + 1) (spC ((List.range (j + 1)).map g)) := by
        rw [List.range_succ, List.map_append, spC_app, List.map_singleton, HG2.out]
        exact ho
      exact ⟨⟨j + 1, q + 1, by omega, by omega, rfl, Lib.hid (by have := HQ.out; omega), by omega, Lib.hid ho2, hb6⟩, by simp [RowKit.intOf]; omega⟩
    · obtain rfl : j = 12 := by have := HQ.out; omega
      have hS : SpIn wr p ((List.range 12).map g) := SpIn.of_own (n := 12) (c := c) (base := W1.heap.size) (E := 28) (by have := HO.out; simpa using this)
      have HS := Lib.hid hS
      have hbF := hb0.trans (hb.mono hb0.size)
      clear hS HO
      go_wp2
      go_ret
      exact ⟨(List.range 12).map g, p, c, HML.out, by simp, HS.out, hbF⟩

set_option maxHeartbeats 4000000 in
set_option maxRecDepth 100000 in
theorem spans_days (k f l y : Int) (w : World) (hk : k = 1 ∨ k = 2) (hf : inB f = true) (hy1 : 1900 ≤ y) (hy2 : y ≤ 2199) : Calls Tryd.prog 33 #[.agg #[.int .i64 k, .int .i64 f, .int .i64 l], .int .i64 y] w (SpPost k f y w) := by
  obtain ⟨f1, f2⟩ := inB_iff.1 hf
  obtain ⟨j1, j2, j3⟩ := jan_y hy1 hy2
  obtain ⟨W1, hW1⟩ : ∃ W1, W1 = w.alloc (.cells #[.int .i64 k, .int .i64 f, .int .i64 l] 39) := ⟨_, rfl⟩
  have hb0 : Below w.heap.size w W1 := by rw [hW1]; exact (Below.refl w.heap.size w).alloc (Nat.le_refl _) _
  have x0 : W1.cell? ⟨w.heap.size, 0, none⟩ = some (.int .i64 k) := by rw [hW1, World.cell?_alloc_new]; rfl
  have x1 : W1.cell? ⟨w.heap.size, 1, none⟩ = some (.int .i64 f) := by rw [hW1, World.cell?_alloc_new]; rfl
  have hz1 : w.heap.size < W1.heap.size := by rw [hW1]; simp
  have HB1 := fun W => begin_any y 1 hy1 (by omega) (by omega) (by omega) W
  have HB2 := fun W => begin_any (y + 1) 1 (by omega) (by omega) (by omega) (by omega) W
  rw [cum_one, Int.add_zero] at HB1
  rw [cum_one, Int.add_zero] at HB2
  obtain ⟨J, hJ⟩ : ∃ J, J = jan y := ⟨_, rfl⟩
  obtain ⟨J', hJ'⟩ : ∃ J, J = jan (y + 1) := ⟨_, rfl⟩
  have hk1 : 1 ≤ k := by omega
  have hk2 : k ≤ 2 := by omega
  obtain ⟨n, hn⟩ : ∃ n, 14 * k = n := ⟨_, rfl⟩
  have hn14 : 14 ≤ n := by omega
  have hn28 : n ≤ 28 := by omega
  have HEN : Hid (∀ a b : Int, Ends k f y a b → b = a + n ∧ (a - f) % n = 0 ∧ -25567 ≤ a ∧ J < b ∧ b ≤ J') := Lib.hid (fun a b h => by
    obtain ⟨e1, e2⟩ := ends_days hk h
    rw [hn] at e1 e2
    rw [hJ, hJ']
    exact ⟨e1, e2, h.2.1, h.2.2.2.1, h.2.2.2.2⟩)
  have HEY : Hid (∀ a : Int, (a - f) % n = 0 → -25567 ≤ a → J < a + n → a + n ≤ J' → Ends k f y a (a + n)) := Lib.hid (fun a h1 h2 h3 h4 => ⟨.inr ⟨hk, by rw [hn], by rw [hn]; exact h1⟩, h2, by omega, by rw [← hJ]; exact h3, by rw [← hJ']; exact h4⟩)
  have HST : Hid (UpD k f y (J - n + 1) []) := Lib.hid (UpD.start fun a b h => by have := HEN.out a b h; omega)
  have hk0 : (k == 0) = false := by simp; omega
  rw [← hJ] at j1 j2 HB1
  rw [← hJ'] at j2 j3 HB2
  have hO : Hid (∀ w3, Below W1.heap.size W1 w3 → w3.ownsRow W1.heap.size 28 2 (.slice none 0 0) 0 []) := Lib.hid (fun w3 h => World.ownsRow_nil _ _ _ _)
  have HB1 := Lib.hid HB1
  have HB2 := Lib.hid HB2
  have HNK := Lib.hid hn
  clear hJ hJ' hf hk hn
  rw [hW1] at x0 x1
  go_enter Tryd.func33, Tryd.ntmps33
  go_wp2_with fail
  rw [← hW1] at x0 x1 ⊢
  clear hW1
  rw [HNK.out]
  refine (HB1.out _).mono ?_
  rintro e w2 ⟨rfl, hb2⟩
  go_wp2_with fail
  refine (HB2.out _).mono ?_
  rintro e w3 ⟨rfl, hb3⟩
  have hb4 := hb2.trans (hb3.mono hb2.size)
  clear hb2 hb3
  go_wp2
  go_loopw [5, 10] (fun lv dv wr => ∃ (K : List (Int × Int)) (D : Int), dv = .int .i64 D ∧ Hid (UpD k f y D K) ∧ J - n + 1 ≤ D ∧ D ≤ J' + 1 ∧ Hid (wr.ownsRow W1.heap.size 28 2 lv K.length (spC K)) ∧ Below W1.heap.size W1 wr) (fun _ dv _ => (J' + 1 - RowKit.intOf dv).toNat)
  case atStart => exact ⟨[], J - n + 1, rfl, HST, by omega, by omega, Lib.hid (hO.out _ hb4), hb4⟩
  case round =>
    clear hO hb4 HST
    obtain ⟨K, D, rfl, HK, hD1, hD2, HO, hb⟩ := hrel
    obtain ⟨p, c, rfl, hnc⟩ := own_slice HO.out
    have hKl := HK.out.len
    by_cases hlt : D + n ≤ J'
    · have y1 := stay hb x1
      have hB1 := hb.size
      by_cases hD3 : -25567 ≤ D
      · obtain ⟨t, ht⟩ : ∃ t, (D - f).tmod n = t := ⟨_, rfl⟩
        have htb := tmod_bd (x := D - f) (n := n) (by omega)
        have htt := tmod_twice (x := D - f) (n := n) (by omega)
        rw [ht] at htb htt
        obtain ⟨u, hu⟩ : ∃ u, (t + n) % n = u := ⟨_, rfl⟩
        rw [hu] at htt
        obtain ⟨t1, t2⟩ := htb
        have t3 : 0 ≤ t + n := by omega
        by_cases hu0 : u = 0
        · have HK2 := Lib.hid (HK.out.add (HEY.out D (by rw [← htt]; exact hu0) hD3 (by omega) hlt))
          subst hu0
          clear htt HEN HEY HK
          go_wp2_with (at_builtin; refine app_arm Tryd.underlying70 infoSpan rfl (by omega) (by omega) W1.heap.size wr _ K.length _ HO.out 1 [.int .i64 D, .int .i64 (D + n)] rfl (fun u hu => by simp at hu; rcases hu with rfl | rfl <;> rfl) (by omega) hB1 rfl _ _ rfl rfl rfl ?_; intro v' w6 ho hgr)
          have hb6 : Below W1.heap.size W1 w6 := (hb.alloc hB1 _).grown hgr (by simp; omega) (fun k hk => (HO.out.lt k hk).1)
          have ho2 : w6.ownsRow W1.heap.size 28 2 v' (K ++ [(D, D + n)]).length (spC (K ++ [(D, D + n)])) := by
            rw [List.length_append, spC_app]
            exact ho
          exact ⟨⟨K ++ [(D, D + n)], D + 1, rfl, HK2, by omega, by omega, Lib.hid ho2, hb6⟩, by simp [RowKit.intOf]; omega⟩
        · have HK2 := Lib.hid (HK.out.skip (fun b h => by
            have := (HEN.out D b h).2.1
            rw [← htt] at this
            exact hu0 this))
          have e1 : (u == 0) = false := by simpa using hu0
          clear htt HEN HEY HK hu0
          go_wp2
          exact ⟨⟨K, D + 1, rfl, HK2, by omega, by omega, HO, hb⟩, by simp [RowKit.intOf]; omega⟩
      · have HK2 := Lib.hid (HK.out.skip (fun b h => by have := (HEN.out D b h).2.2.1; omega))
        clear HEN HEY HK
        go_wp2
        exact ⟨⟨K, D + 1, rfl, HK2, by omega, by omega, HO, hb⟩, by simp [RowKit.intOf]; omega⟩
    · have HY := Lib.hid (HK.out.done (fun a b h => by have := HEN.out a b h; omega))
      have HS := Lib.hid (SpIn.of_own (p := p) (n := K.length) (c := c) HO.out)
      have hbF := hb0.trans (hb.mono hb0.size)
      clear HK HEN HEY HO
      go_wp2
      go_ret
      exact ⟨K, p, c, HY.out, rfl, HS.out, hbF⟩

end Go.Proofs.YtfmabjfibjnkoaaDoor
