/-
  What is proved: how words lie in memory, and the contract of lex.All. Conditions: the text is shorter than 2^62 bytes; the variable ErrRange holds an error.
-/
import Derived.Test.YtlfcmelencdghaaDoorLxF
import Derived.WalkSpells
import Derived.WalkLawsBesides
import Derived.Below
import Derived.Laws.OwnMore
import Derived.Laws.AppendOwn
import Derived.Laws.AppendOwnNone
import Derived.Laws.MakeOwn
import Derived.Deep.AppendSrc
import Derived.Deep.AppendLies
import Derived.Deep.Draws
import Derived.Lib.AppendZeros
import Derived.Maps.AppendAt
namespace Go.Proofs.YtlfcmelencdghaaDoor
open Go Go.RowKit Go.Lib Go.Proofs
set_option linter.unusedVariables false

theorem add_at (g j : Nat) : (⟨g, 0, none⟩ : Addr).add j = ⟨g, j, none⟩ := by
  unfold Addr.add
  by_cases h : j = 0 <;> simp [h]
theorem own_cells {w : World} {base : Nat} {E : TypeId} {s n : Nat} {v : Value} {xs : List Value} (h : w.ownsRow base E s v n xs) (hn : 0 < n) :
    ∃ g c, v = .slice (some ⟨g, 0, none⟩) n c ∧ base ≤ g ∧ g < w.heap.size ∧ n ≤ c ∧ ∀ j u, xs[j]? = some u → w.cell? ⟨g, j, none⟩ = some u := by
  obtain ⟨g, c, rfl, hg, hlt⟩ := h.form hn
  refine ⟨g, c, rfl, hg, hlt, ?_, fun j u hu => by have := h.cells (g := g) rfl j u hu; rwa [add_at] at this⟩
  rcases h.2 with ⟨h1, _⟩ | ⟨g', c', cur, h1, _, _, h2, _⟩
  · cases h1
  · injection h1 with _ _ h3; omega
/-- A row of a call's own is a slice of that many. -/
theorem own_slice {w : World} {base : Nat} {E : TypeId} {s n : Nat} {v : Value} {xs : List Value} (h : w.ownsRow base E s v n xs) : ∃ p c, v = .slice p n c ∧ n ≤ c := by
  rcases h.2 with ⟨rfl, rfl⟩ | ⟨g, c, cur, rfl, _, _, h2, _⟩
  · exact ⟨none, 0, rfl, Nat.le_refl _⟩
  · exact ⟨_, _, rfl, h2⟩
theorem own_below {w w' : World} {base B : Nat} {E : TypeId} {s n : Nat} {v : Value} {xs : List Value} (h : w.ownsRow base E s v n xs) (hb : Below B w w') (hB : w.heap.size ≤ B) : w'.ownsRow base E s v n xs := by
  obtain ⟨h1, h2⟩ := h
  refine ⟨h1, ?_⟩
  rcases h2 with h2 | ⟨g, c, cur, rfl, hg, hh, h3⟩
  · exact .inl h2
  · have hlt : g < w.heap.size := by
      rcases Nat.lt_or_ge g w.heap.size with hlt | hge
      · exact hlt
      · rw [Array.getElem?_eq_none hge] at hh; cases hh
    exact .inr ⟨g, c, cur, rfl, hg, (hb.block g (by omega)).trans hh, h3⟩
theorem info_of {P : Program} {t : TypeId} {z : Option Value} {s b : Nat} (h : (P.info? t).map (fun i => (i.zero, i.size, i.bytes)) = some (z, s, b)) : ∃ i, P.info? t = some i ∧ i.zero = z ∧ i.size = s ∧ i.bytes = b := by
  obtain ⟨i, hi, he⟩ := Option.map_eq_some_iff.1 h
  injection he with h1 h2
  injection h2 with h2 h3
  exact ⟨i, hi, h1, h2, h3⟩
/-- append of elements that were built for it. -/
theorem app_new {T E : TypeId} {z : Value} {s b : Nat} (hT : Tryd.prog.underlying T = some (.slice E)) (hI : (Tryd.prog.info? E).map (fun i => (i.zero, i.size, i.bytes)) = some (some z, s, b)) (hz : z.cells.size = s) (hs : 0 < s) (hb : b ≤ 64) (base : Nat) (ty : TypeId) (w : World) (v : Value) (n : Nat) (xs : List Value) (hown : w.ownsRow base E s v n xs)
    (m : Nat) (news : List Value) (hl : news.length = m * s) (h1 : ∀ u ∈ news, u.oneCell' = true) (hn : n + m ≤ 1000000) (hbase : base ≤ w.heap.size) :
    ∃ v' w', (Builtin.append_ #[T, T] ty #[v, .slice (some ⟨w.heap.size, 0, none⟩) m m]).run Tryd.prog (w.alloc (.cells news.toArray E)) = .ok v' w' ∧ w'.ownsRow base E s v' (n + m) (xs ++ news) ∧ (w.alloc (.cells news.toArray E)).grownBy w' v.ownBlock ∧ (v'.ownBlock = v.ownBlock ∨ v'.ownBlock = some (w.heap.size + 1)) := by
  obtain ⟨i, hi, hz0, hz1, hz2⟩ := info_of hI
  have hm : (n + m) * b ≤ 1000000 * 64 := Nat.mul_le_mul hn hb
  obtain ⟨v', w', h1, h2, h3, _, h4⟩ := run_append_own_at (P := Tryd.prog) (w.alloc (.cells news.toArray E)) base T ty E i z s b hT hi hz0 hz1 hz2 hz hs v n xs (hown.alloc _) ⟨w.heap.size, 0, none⟩ m m news hl
    (fun j u hu => by rw [add_at, World.cell?_alloc_new]; simpa using hu)
    h1 (by unfold maxLen; omega) (by omega) (by simp; omega)
  exact ⟨v', w', h1, h2, h3, by simpa using h4⟩
theorem app_arm {T E : TypeId} {z : Value} {s b : Nat} (hT : Tryd.prog.underlying T = some (.slice E)) (hI : (Tryd.prog.info? E).map (fun i => (i.zero, i.size, i.bytes)) = some (some z, s, b)) (hz : z.cells.size = s) (hs : 0 < s) (hb : b ≤ 64) (base : Nat) (w : World) (v : Value) (n : Nat) (xs : List Value) (hown : w.ownsRow base E s v n xs)
    (m : Nat) (news : List Value) (hl : news.length = m * s) (h1 : ∀ u ∈ news, u.oneCell' = true) (hn : n + m ≤ 1000000) (hbase : base ≤ w.heap.size)
    {ops : Array Oper} {rest : List Oper} {o : Oper} {a : Act} {Q : Exit → Act → World → Prop} (hgd : o.guard = none) (sO xO : Operand) (ho : o.op = .call { callee := .builtin .append, args := #[sO, xO], argTypes := #[T, T] }) (hv : a.eval sO = v) (hx : a.eval xO = .slice (some ⟨w.heap.size, 0, none⟩) m m)
    (h : ∀ v' w', w'.ownsRow base E s v' (n + m) (xs ++ news) → (w.alloc (.cells news.toArray E)).grownBy w' v.ownBlock → wpList Tryd.prog ops Q rest (a.put o.dst v') w') : wpList Tryd.prog ops Q (o :: rest) a (w.alloc (.cells news.toArray E)) := by
  obtain ⟨v', w', hr, h2, h3, -⟩ := app_new hT hI hz hs hb base o.type w v n xs hown m news hl h1 hn hbase
  exact Lib.wpList_append_run _ hgd sO xO T T ho v _ hv hx v' w' hr (h v' w' h2 h3)
theorem app_arm_at {T E : TypeId} {z : Value} {s b : Nat} (hT : Tryd.prog.underlying T = some (.slice E)) (hI : (Tryd.prog.info? E).map (fun i => (i.zero, i.size, i.bytes)) = some (some z, s, b)) (hz : z.cells.size = s) (hs : 0 < s) (hb : b ≤ 64) (base : Nat) (w : World) (v : Value) (n : Nat) (xs : List Value) (hown : w.ownsRow base E s v n xs)
    (m : Nat) (news : List Value) (hl : news.length = m * s) (h1 : ∀ u ∈ news, u.oneCell' = true) (hn : n + m ≤ 1000000) (hbase : base ≤ w.heap.size)
    {ops : Array Oper} {rest : List Oper} {o : Oper} {a : Act} {Q : Exit → Act → World → Prop} (hgd : o.guard = none) (sO xO : Operand) (ho : o.op = .call { callee := .builtin .append, args := #[sO, xO], argTypes := #[T, T] }) (hv : a.eval sO = v) (hx : a.eval xO = .slice (some ⟨w.heap.size, 0, none⟩) m m)
    (h : ∀ v' w', w'.ownsRow base E s v' (n + m) (xs ++ news) → (w.alloc (.cells news.toArray E)).grownBy w' v.ownBlock → (v'.ownBlock = v.ownBlock ∨ v'.ownBlock = some (w.heap.size + 1)) → wpList Tryd.prog ops Q rest (a.put o.dst v') w') : wpList Tryd.prog ops Q (o :: rest) a (w.alloc (.cells news.toArray E)) := by
  obtain ⟨v', w', hr, h2, h3, h4⟩ := app_new hT hI hz hs hb base o.type w v n xs hown m news hl h1 hn hbase
  exact Lib.wpList_append_run _ hgd sO xO T T ho v _ hv hx v' w' hr (h v' w' h2 h3 h4)

/-- Words as cells. -/
def tkC (L : List To) : List Value := L.flatMap (fun t => [.int .i64 t.kind, .string ⟨t.text.toArray⟩, .int .i64 (t.at' : Int)])
theorem tkC_len : ∀ L, (tkC L).length = L.length * 3
  | [] => rfl
  | s :: r => by show (tkC r).length + 3 = _; rw [tkC_len r]; simp; omega
theorem tkC_app (K L : List To) : tkC (K ++ L) = tkC K ++ tkC L := by simp [tkC]
def noTo : To := ⟨0, [], 0⟩
theorem tkC_at : ∀ (L : List To) (j : Nat), j < L.length → (tkC L)[j * 3]? = some (.int .i64 (L.getD j noTo).kind) ∧ (tkC L)[j * 3 + 1]? = some (.string ⟨(L.getD j noTo).text.toArray⟩) ∧ (tkC L)[j * 3 + 2]? = some (.int .i64 ((L.getD j noTo).at' : Int))
  | s :: r, 0, _ => ⟨rfl, rfl, rfl⟩
  | s :: r, j + 1, h => by
    obtain ⟨a, b, c⟩ := tkC_at r j (by simpa using h)
    rw [show (j + 1) * 3 = j * 3 + 3 by omega]
    exact ⟨a, b, c⟩
theorem tkC_one {L : List To} : ∀ u ∈ tkC L, u.oneCell' = true := fun u hu => by
  simp only [tkC, List.mem_flatMap] at hu
  obtain ⟨s, -, hu⟩ := hu
  simp at hu
  rcases hu with rfl | rfl | rfl <;> rfl
/-- Words lie in memory. -/
def ToksIn (w : World) (p : Option Addr) (L : List To) : Prop :=
  L = [] ∨ ∃ b o, p = some ⟨b, o, none⟩ ∧ ∀ j, j < L.length → w.cell? ⟨b, o + j * 3, none⟩ = some (.int .i64 (L.getD j noTo).kind) ∧ w.cell? ⟨b, o + j * 3 + 1, none⟩ = some (.string ⟨(L.getD j noTo).text.toArray⟩) ∧ w.cell? ⟨b, o + j * 3 + 2, none⟩ = some (.int .i64 ((L.getD j noTo).at' : Int))
theorem ToksIn.below {w w' : World} {p : Option Addr} {L : List To} {B : Nat} (h : ToksIn w p L) (hb : Below B w w') (hB : w.heap.size ≤ B) : ToksIn w' p L := by
  rcases h with h | ⟨b, o, rfl, hc⟩
  · exact .inl h
  · refine .inr ⟨b, o, rfl, fun j hj => ?_⟩
    obtain ⟨h1, h2, h3⟩ := hc j hj
    have hbl : b < w.heap.size := World.block_lt_of_cell? w _ h1
    exact ⟨(hb.cell (p := ⟨b, o + j * 3, none⟩) (Nat.lt_of_lt_of_le hbl hB)).trans h1, (hb.cell (p := ⟨b, o + j * 3 + 1, none⟩) (Nat.lt_of_lt_of_le hbl hB)).trans h2, (hb.cell (p := ⟨b, o + j * 3 + 2, none⟩) (Nat.lt_of_lt_of_le hbl hB)).trans h3⟩
theorem ToksIn.of_own {w : World} {base : Nat} {E : TypeId} {p : Option Addr} {n c : Nat} {L : List To} (h : w.ownsRow base E 3 (.slice p n c) L.length (tkC L)) : ToksIn w p L := by
  by_cases e : L.length = 0
  · exact .inl (List.eq_nil_of_length_eq_zero e)
  · obtain ⟨g, c', hv, -, -, -, hc⟩ := own_cells h (by omega)
    injection hv with hv
    subst hv
    refine .inr ⟨g, 0, rfl, fun j hj => ?_⟩
    obtain ⟨a, b, d⟩ := tkC_at L j hj
    rw [Nat.zero_add]
    exact ⟨hc _ _ a, hc _ _ b, hc _ _ d⟩
theorem infoTok : (Tryd.prog.info? 28).map (fun i => (i.zero, i.size, i.bytes)) = some (some (.agg #[.int .i64 0, .string ⟨#[]⟩, .int .i64 0]), 3, 32) := by kernel_rfl
theorem ext_eq (s : ByteArray) (a n : Nat) : s.extract a (a + n) = ⟨((s.data.toList.drop a).take n).toArray⟩ := by
  rw [← ext_take]

/-- A formula's words. -/
def lexS (l : List UInt8) : Ans := if 4096 < l.length then ⟨[], 0, 4⟩ else lexL 0 l
/-- What All leaves. -/
def AllOk (E : TypeId) (A : Ans) (w : World) (e : Ending) (w' : World) : Prop :=
  ∃ p n c, e = .returned (.tuple #[.slice p n c, .int .i64 (A.p : Int), .int .i64 A.e]) ∧ n = A.l.length ∧ w'.ownsRow w.heap.size E 3 (.slice p n c) A.l.length (tkC A.l) ∧ Below w.heap.size w w'

theorem lex_step {s : ByteArray} {a : Nat} (ha : a < s.size) (hbl : isBl s[a] = false) :
    ((tok (s.data.toList.drop a)).e ≠ 0 → lexL a (s.data.toList.drop a) = ⟨[], a + (tok (s.data.toList.drop a)).n, (tok (s.data.toList.drop a)).e⟩) ∧
    ((tok (s.data.toList.drop a)).e = 0 → lexL a (s.data.toList.drop a) = catA [⟨(tok (s.data.toList.drop a)).kind, (s.data.toList.drop a).take (tok (s.data.toList.drop a)).n, a⟩] (lexL (a + (tok (s.data.toList.drop a)).n) (s.data.toList.drop (a + (tok (s.data.toList.drop a)).n)))) := by
  have hl := drop_cons ha
  refine ⟨fun h => ?_, fun h => ?_⟩
  · rw [hl] at h ⊢; exact lexL_bad hbl h
  · have := lexL_ok (at' := a) hbl (by rw [← hl]; exact h)
    rw [← hl] at this
    rw [this, List.drop_drop]
theorem skip_to (s : ByteArray) (a : Nat) : lexL a (s.data.toList.drop a) = lexL (a + runL isBl (s.data.toList.drop a)) (s.data.toList.drop (a + runL isBl (s.data.toList.drop a))) := by
  rw [lexL_skip, List.drop_drop]
theorem skip_end {s : ByteArray} {a : Nat} (h : a + runL isBl (s.data.toList.drop a) < s.size) : isBl s[a + runL isBl (s.data.toList.drop a)] = false :=
  runL_end (s.data.toList.drop a) _ (drop_get h)
theorem lex_end {s : ByteArray} {a : Nat} (h : s.size ≤ a) : lexL a (s.data.toList.drop a) = ⟨[⟨0, [], a⟩], 0, 0⟩ := by
  rw [List.drop_eq_nil_of_le (by rw [size_len]; omega), lexL_nil]

set_option maxHeartbeats 2000000 in
set_option maxRecDepth 100000 in
theorem All_any (s : ByteArray) (hs : s.size ≤ 4611686018427387904) (w : World) (hS : Sent w) :
    Calls Tryd.prog 9 #[.string s] w (AllOk 28 (lexS s.data.toList) w) := by
  unfold lexS
  rw [size_len]
  by_cases h1 : 4096 < s.size
  · rw [if_pos h1]
    have i1 : (4096 : Int) < (s.size : Int) := by omega
    go_enter Tryd.func9, Tryd.ntmps9
    go_wp2
    go_ret3
    exact ⟨none, 0, 0, rfl, rfl, World.ownsRow_nil _ _ _ _, Below.refl _ _⟩
  · rw [if_neg h1]
    have i1 : ¬ (4096 : Int) < (s.size : Int) := by omega
    obtain ⟨A, hA⟩ : ∃ A, A = lexL 0 s.data.toList := ⟨_, rfl⟩
    rw [← hA]
    have hc : (w.alloc (.cells #[.string s] 9)).cell? ⟨w.heap.size, 0, none⟩ = some (.string s) := by rw [World.cell?_alloc_new]; rfl
    have hb0 : Below w.heap.size w (w.alloc (.cells #[.string s] 9)) := (Below.refl _ _).alloc (Nat.le_refl _) _
    have hsz : (w.alloc (.cells #[.string s] 9)).heap.size = w.heap.size + 1 := by simp
    have H1 := Lib.hid (look_any asksBlank s (by omega) 0 (by omega) w.heap.size (w.alloc (.cells #[.string s] 9)) hc)
    have HK := Lib.hid (looker_any s w)
    have hle := runL_le isBl (s.data.toList.drop 0)
    rw [List.length_drop, size_len] at hle
    have hA1 : A = lexL (0 + runL isBl (s.data.toList.drop 0)) (s.data.toList.drop (0 + runL isBl (s.data.toList.drop 0))) := by rw [hA, ← skip_to]; rfl
    have hE1 := fun h => skip_end (s := s) (a := 0) h
    obtain ⟨z, hz⟩ : ∃ z, z = 0 + runL isBl (s.data.toList.drop 0) := ⟨_, rfl⟩
    have HE1 : Hid (∀ h : z < s.size, isBl s[z] = false) := Lib.hid (fun h => by simp only [hz]; exact hE1 (by omega))
    rw [← hz] at H1 hA1
    have HA1 := Lib.hid hA1
    have hzs : z ≤ s.size := by omega
    have HS := Lib.hid hS
    obtain ⟨G, hG⟩ : ∃ G, G = w.heap.size := ⟨_, rfl⟩
    clear hA1 hA hE1 hz hle h1 hS
    go_enter Tryd.func9, Tryd.ntmps9
    go_wp2_with fail
    refine (HK.out).mono ?_
    rintro e w1 ⟨rfl, rfl⟩
    go_wp2_with fail
    refine (H1.out).mono ?_
    rintro e w1 ⟨rfl, rfl⟩
    go_wp2
    have hsw := hb0.size
    obtain ⟨W0, hW0⟩ : ∃ W0, W0 = w.alloc (.cells #[.string s] 9) := ⟨_, rfl⟩
    rw [← hW0] at hc hb0 hsz hsw
    rw [← hW0]
    have hS0 := HS.out.below (Nat.le_refl _) hb0
    have hcg : w.heap.size < W0.heap.size := by omega
    clear hW0 H1 HK
    go_loopw [5, 7] (fun v av wr => ∃ (a : Nat) (q : Value) (L : List To), a ≤ s.size ∧ av = .int .i64 a ∧ q = v ∧ L.length ≤ a ∧ Hid (∀ h : a < s.size, isBl s[a] = false) ∧ Hid (A = catA L (lexL a (s.data.toList.drop a))) ∧ Hid (wr.ownsRow w.heap.size 28 3 q L.length (tkC L)) ∧ wr.cell? ⟨w.heap.size, 0, none⟩ = some (.string s) ∧ w.heap.size < wr.heap.size ∧ Below w.heap.size w wr ∧ Hid (∀ k, q.ownBlock = some k → w.heap.size < k)) (fun _ av _ => s.size - (RowKit.intOf av).toNat)
    case atStart => exact ⟨z, _, [], hzs, rfl, rfl, by simp, HE1, Lib.hid (by rw [catA_nil _ (fun h => (lexL_err _ _ _ (Nat.le_refl _)).1 h)]; exact HA1.out), Lib.hid (World.ownsRow_nil _ _ _ _), hc, hcg, hb0, Lib.hid (fun k h => by cases h)⟩
    case round =>
      clear HE1 HA1 hc hcg hb0 hzs hS0 hsw hsz
      obtain ⟨a, q, L, ha, rfl, rfl, hL, HB, HA, HO, hc, hcg, hb, HQ⟩ := hrel
      by_cases hlt : a < s.size
      · have hst := lex_step hlt (HB.out hlt)
        have hT := tokenAt_any s (by omega) a hlt wr (HS.out.below (Nat.le_refl _) hb)
        unfold TokOk at hT
        have hok := fun h => tok_ok (l := s.data.toList.drop a) h
        rw [List.length_drop, size_len] at hok
        generalize hTT : tok (s.data.toList.drop a) = T at hst hT hok
        clear hTT
        obtain ⟨t1, t2, t3⟩ := T
        dsimp only at hst hT hok
        have HT := Lib.hid hT
        have ia : (a : Int) < (s.size : Int) := by omega
        by_cases he : t3 = 0
        · subst he
          obtain ⟨hp, hle⟩ := hok rfl
          have HST := Lib.hid (hst.2 rfl)
          obtain ⟨z2, hz2⟩ : ∃ z2, z2 = a + t2 := ⟨_, rfl⟩
          have hx := ext_eq s a t2
          rw [← hz2] at HT HST hx
          have hz2s : z2 ≤ s.size := by omega
          have hza : a < z2 := by omega
          have j1 : (a : Int) ≤ (z2 : Int) := by omega
          have j2 : (z2 : Int) ≤ (s.size : Int) := by omega
          have HX := Lib.hid hx
          clear hst hT hok hx hz2 hp hle
          go_wp2_with fail
          refine (HT.out).mono ?_
          rintro e w2 ⟨rfl, hb2⟩
          have hc2 := (hb2.cell (p := ⟨w.heap.size, 0, none⟩) (by show w.heap.size < wr.heap.size; omega)).trans hc
          have hcg2 : w.heap.size < w2.heap.size := Nat.lt_of_lt_of_le hcg hb2.size
          have hbB := hb.trans (hb2.mono hb.size)
          have HO2 := own_below HO.out hb2 (Nat.le_refl _)
          obtain ⟨v', w3, hr, ho, hg, hv'⟩ := app_new Tryd.underlying23 infoTok rfl (by omega) (by omega) w.heap.size 23 w2 _ L.length _ HO2 1 [.int .i64 t1, .string (s.extract a z2), .int .i64 (a : Int)] rfl (fun u hu => by simp at hu; rcases hu with rfl | rfl | rfl <;> rfl) (by omega) hbB.size
          have hb4 : Below w.heap.size w w3 := (hbB.alloc hbB.size _).grown hg (by simp; have := hbB.size; omega) (fun k hk => (HO2.lt k hk).1)
          have HO3 := Lib.hid ho
          have R1 := Lib.hid hr
          have hc3 : w3.cell? ⟨w.heap.size, 0, none⟩ = some (.string s) := by
            refine hg.cell (a := ⟨w.heap.size, 0, none⟩) ?_ ?_
            · exact (((Below.refl w2.heap.size w2).alloc (Nat.le_refl _) _).cell (p := ⟨w.heap.size, 0, none⟩) hcg2).trans hc2
            · intro h
              have := HQ.out w.heap.size h.symm
              omega
          have hcg3 : w.heap.size < w3.heap.size := by
            have := hg.size
            simp at this
            omega
          have H2 := Lib.hid (look_any asksBlank s (by omega) z2 hz2s w.heap.size w3 hc3)
          have HQ3 : Hid (∀ k, v'.ownBlock = some k → w.heap.size < k) := Lib.hid (fun k hk => by
            rcases hv' with h | h
            · rw [h] at hk; exact HQ.out k hk
            · rw [h] at hk; injection hk with hk; omega)
          have hrl := runL_le isBl (s.data.toList.drop z2)
          rw [List.length_drop, size_len] at hrl
          have HSK := Lib.hid (skip_to s z2)
          have HSE : Hid (∀ y, y = z2 + runL isBl (s.data.toList.drop z2) → ∀ h : y < s.size, isBl s[y] = false) := Lib.hid (fun y hy h => by simp only [hy]; exact skip_end (s := s) (a := z2) (by omega))
          generalize runL isBl (s.data.toList.drop z2) = m at H2 hrl HSK HSE
          obtain ⟨z3, hz3⟩ : ∃ z3, z3 = z2 + m := ⟨_, rfl⟩
          have HSE3 := Lib.hid (HSE.out z3 hz3)
          simp only [← hz3] at H2 HSK
          have hz3s : z3 ≤ s.size := by omega
          have hz3a : z2 ≤ z3 := by omega
          clear hz3 hrl HO2 hr ho hg hv' HT hb2 hbB HSE
          go_wp2_with (at_builtin; refine Lib.wpList_append_run _ rfl _ _ 23 23 rfl _ _ rfl rfl v' w3 (R1.out) ?_)
          refine (H2.out).mono ?_
          rintro e w4 ⟨rfl, rfl⟩
          go_wp2
          refine ⟨⟨z3, v', L ++ [⟨t1, (s.data.toList.drop a).take t2, a⟩], hz3s, by go_num, rfl, by simp; omega, HSE3, Lib.hid ?_, Lib.hid ?_, hc3, hcg3, hb4, HQ3⟩, by simp [RowKit.intOf]; omega⟩
          · rw [HA.out, HST.out, HSK.out, catA_cat]
          · have h := HO3.out
            rw [HX.out] at h
            rw [tkC_app, List.length_append]
            exact h
        · have hA2 : A = ⟨[], a + t2, t3⟩ := by
            rw [HA.out, hst.1 he]; unfold catA; rw [if_neg he]
          have d1 : (t3 != 0) = true := by simpa using he
          obtain ⟨z2, hz2⟩ : ∃ z2, z2 = a + t2 := ⟨_, rfl⟩
          rw [← hz2] at HT hA2
          clear HA hst hok hT hz2 he
          subst hA2
          go_wp2_with fail
          refine (HT.out).mono ?_
          rintro e w2 ⟨rfl, hb2⟩
          go_wp2
          go_ret3
          exact ⟨none, 0, 0, rfl, rfl, World.ownsRow_nil _ _ _ _, hb.trans (hb2.mono hb.size)⟩
      · obtain rfl : s.size = a := by omega
        have hA2 : A = ⟨L ++ [⟨0, [], s.size⟩], 0, 0⟩ := by
          rw [HA.out, lex_end (Nat.le_refl _)]; unfold catA; rw [if_pos rfl]
        obtain ⟨v', w3, hr, ho, hg, hv'⟩ := app_new Tryd.underlying23 infoTok rfl (by omega) (by omega) w.heap.size 23 wr _ L.length _ HO.out 1 [.int .i64 0, .string ⟨#[]⟩, .int .i64 (s.size : Int)] rfl (fun u hu => by simp at hu; rcases hu with rfl | rfl | rfl <;> rfl) (by omega) hb.size
        have hb4 : Below w.heap.size w w3 := (hb.alloc hb.size _).grown hg (by simp; have := hb.size; omega) (fun k hk => (HO.out.lt k hk).1)
        obtain ⟨p, c, rfl, hlc⟩ := own_slice ho
        have HO3 := Lib.hid ho
        have R1 := Lib.hid hr
        have HA2 := Lib.hid hA2
        clear hr ho hg hv' HA hA2
        go_wp2_with (at_builtin; refine Lib.wpList_append_run _ rfl _ _ 23 23 rfl _ _ rfl rfl (.slice p (L.length + 1) c) w3 (R1.out) ?_)
        go_ret3
        refine ⟨p, L.length + 1, c, ?_, ?_, ?_, hb4⟩
        · rw [HA2.out]; rfl
        · rw [HA2.out, List.length_append]; rfl
        · have h := HO3.out
          rw [HA2.out, tkC_app, List.length_append]
          exact h

end Go.Proofs.YtlfcmelencdghaaDoor
