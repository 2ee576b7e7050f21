/-
  What is proved: the contract of span.Pieces: a span, cut at the days that lie within it. Conditions: at most 10000 days, which lie in memory as the contract says.
-/
import Derived.Test.YtefcadngdcgpiaaSpH
import Derived.Sort.OwnSortedInts
namespace Go.Proofs.Ytefcadngdcgpiaa
open Go Go.RowKit Go.Proofs Go.Shelf

theorem last_mem : ∀ (f : Int) (r : List Int), r.getLastD f ∈ f :: r
  | f, [] => by simp
  | f, y :: r => by rw [List.getLastD_cons]; exact List.mem_cons_of_mem _ (last_mem y r)
theorem last_max : ∀ {f : Int} {r : List Int}, Rise (f :: r) → ∀ x ∈ f :: r, x ≤ r.getLastD f
  | f, [], _, x, hx => by simp at hx; subst hx; exact Int.le_refl _
  | f, y :: r, h, x, hx => by
    rw [List.getLastD_cons]
    have h2 := h.cons
    rcases List.mem_cons.1 hx with rfl | hx
    · have := last_max h2.2 y (by simp)
      have := h2.1 y (by simp)
      omega
    · exact last_max h2.2 x hx
theorem rise_snoc {f : Int} {r : List Int} {c : Int} (h : Rise (f :: r)) (hc : r.getLastD f < c) : Rise (f :: (r ++ [c])) := by
  show Rise ((f :: r) ++ [c])
  refine List.pairwise_append.2 ⟨h, by simp, fun x hx y hy => ?_⟩
  simp at hy
  subst hy
  have := last_max h x hx
  omega
/-- The cuts within a span, of days that rise. -/
def cutR (f t : Int) (F : Nat → Int) : Nat → List Int
  | 0 => []
  | k + 1 => if (cutR f t F k).getLastD f < F k ∧ F k < t then cutR f t F k ++ [F k] else cutR f t F k
theorem cutR_len (f t : Int) (F : Nat → Int) : ∀ k, (cutR f t F k).length ≤ k
  | 0 => Nat.le_refl _
  | k + 1 => by
    have := cutR_len f t F k
    unfold cutR
    split
    · simp; omega
    · omega
theorem mono_of {F : Nat → Int} {n : Nat} (hs : ∀ i, i + 1 < n → F i ≤ F (i + 1)) : ∀ {d i : Nat}, i + d < n → F i ≤ F (i + d)
  | 0, i, _ => Int.le_refl _
  | d + 1, i, h => by
    have := mono_of hs (d := d) (i := i) (by omega)
    have := hs (i + d) (by omega)
    show F i ≤ F (i + d + 1)
    omega
theorem cutR_inv {f t : Int} {F : Nat → Int} {n : Nat} (hs : ∀ i, i + 1 < n → F i ≤ F (i + 1)) : ∀ k, k ≤ n → Rise (f :: cutR f t F k) ∧ ∀ x, x ∈ cutR f t F k ↔ ∃ i, i < k ∧ F i = x ∧ f < x ∧ x < t
  | 0, _ => ⟨by simp [cutR, Rise], fun x => by simp [cutR]⟩
  | k + 1, hk => by
    obtain ⟨h1, h2⟩ := cutR_inv (f := f) (t := t) hs k (by omega)
    unfold cutR
    split
    · rename_i hc
      refine ⟨rise_snoc h1 hc.1, fun x => ?_⟩
      have hf := last_max h1 f (by simp)
      constructor
      · intro hx
        rcases List.mem_append.1 hx with hx | hx
        · obtain ⟨i, hi, r⟩ := (h2 x).1 hx
          exact ⟨i, by omega, r⟩
        · simp at hx
          subst hx
          exact ⟨k, by omega, rfl, by omega, hc.2⟩
      · rintro ⟨i, hi, rfl, h3, h4⟩
        by_cases e : i = k
        · subst e; simp
        · exact List.mem_append.2 (.inl ((h2 _).2 ⟨i, by omega, rfl, h3, h4⟩))
    · rename_i hc
      refine ⟨h1, fun x => ⟨fun hx => ?_, ?_⟩⟩
      · obtain ⟨i, hi, r⟩ := (h2 x).1 hx
        exact ⟨i, by omega, r⟩
      · rintro ⟨i, hi, rfl, h3, h4⟩
        by_cases e : i = k
        · subst e
          have hle : F i ≤ (cutR f t F i).getLastD f := by
            rcases Int.lt_or_le ((cutR f t F i).getLastD f) (F i) with h | h
            · exact absurd ⟨h, h4⟩ hc
            · exact h
          rcases List.mem_cons.1 (last_mem f (cutR f t F i)) with h | h
          · omega
          · obtain ⟨j, hj, hjx, -⟩ := (h2 _).1 h
            have := mono_of hs (d := i - j) (i := j) (by omega)
            rw [show j + (i - j) = i by omega] at this
            rw [show F i = (cutR f t F i).getLastD f by omega]
            exact h
        · exact (h2 _).2 ⟨i, by omega, rfl, h3, h4⟩
/-- Which cuts there are: of the days those within, each once, rising. -/
def CutsOf (f t : Int) (D r : List Int) : Prop := Rise (f :: r) ∧ ∀ x, x ∈ r ↔ x ∈ D ∧ f < x ∧ x < t
theorem cutR_of {f t : Int} {D F : List Int} (hp : F.Perm D) (hs : ∀ i, i + 1 < F.length → F.getD i 0 ≤ F.getD (i + 1) 0) : CutsOf f t D (cutR f t (fun i => F.getD i 0) F.length) := by
  obtain ⟨h1, h2⟩ := cutR_inv (f := f) (t := t) (F := fun i => F.getD i 0) (n := F.length) hs F.length (Nat.le_refl _)
  refine ⟨h1, fun x => (h2 x).trans ⟨?_, ?_⟩⟩
  · rintro ⟨i, hi, rfl, h3, h4⟩
    refine ⟨hp.subset ?_, h3, h4⟩
    show F.getD i 0 ∈ F
    rw [getD_at F 0 hi]
    exact List.getElem_mem _
  · rintro ⟨hx, h3, h4⟩
    obtain ⟨i, hi, rfl⟩ := List.getElem_of_mem (hp.symm.subset hx)
    exact ⟨i, hi, getD_at F 0 hi, h3, h4⟩

theorem DaysIn.kept {w w' : World} {p : Option Addr} {L : List Int} {row : Option Nat} (h : DaysIn w p L) (hg : w.grownBy w' row) (hne : ∀ a, p = some a → row ≠ some a.block) : DaysIn w' p L := by
  rcases h with h | ⟨b, o, rfl, hc⟩
  · exact .inl h
  · have hb := hne _ rfl
    exact .inr ⟨b, o, rfl, fun j hj => hg.cell (hc j hj) (Ne.symm hb)⟩
theorem DaysIn.far {w : World} {p : Option Addr} {L : List Int} (h : DaysIn w p L) (a : Addr) (v : Value) (hne : ∀ b, p = some b → a.block ≠ b.block) : DaysIn (w.setCell a v) p L := by
  rcases h with h | ⟨b, o, rfl, hc⟩
  · exact .inl h
  · have hb := hne _ rfl
    exact .inr ⟨b, o, rfl, fun j hj => (World.cell?_setCell_other _ _ _ _ (fun e => by subst e; exact hb rfl)).trans (hc j hj)⟩
theorem app_src_arm {T E : TypeId} {z : Value} {s b : Nat} (hT : Try.prog.underlying T = some (.slice E)) (hI : (Try.prog.info? E).map (fun i => (i.zero, i.size, i.bytes)) = some (some z, s, b)) (hz : z.cells.size = s) (hs : 0 < s) (hb : b ≤ 64) (base : Nat) (w : World) (v : Value) (n : Nat) (xs : List Value) (hown : w.ownsRow base E s v n xs)
    (p : Option Addr) (m c : Nat) (news : List Value) (hl : news.length = m * s) (hp : p = none ∧ m = 0 ∧ c = 0 ∨ ∃ a, p = some a ∧ ∀ j u, news[j]? = some u → w.cell? (a.add j) = some u) (h1 : ∀ u ∈ news, u.oneCell' = true) (hn : n + m ≤ 1000000) (hbase : base ≤ w.heap.size)
    {ops : Array Oper} {rest : List Oper} {o : Oper} {a : Act} {Q : Exit → Act → World → Prop} (hgd : o.guard = none) (sO xO : Operand) (ho : o.op = .call { callee := .builtin .append, args := #[sO, xO], argTypes := #[T, T] }) (hv : a.eval sO = v) (hx : a.eval xO = .slice p m c)
    (h : ∀ v' w', w'.ownsRow base E s v' (n + m) (xs ++ news) → w.grownBy w' v.ownBlock → wpList Try.prog ops Q rest (a.put o.dst v') w') : wpList Try.prog ops Q (o :: rest) a w := by
  obtain ⟨v', w', hr, h2, h3⟩ := app_src hT hI hz hs hb base o.type w v n xs hown p m c news hl hp h1 hn hbase
  exact Lib.wpList_append_run _ hgd sO xO T T ho v _ hv hx v' w' hr (h v' w' h2 h3)
theorem cloneDy0 (a : Addr) (c : Nat) (w : World) :
    Calls Try.prog 44 #[.slice (some a) 0 c] w fun e w' => ∃ v, e = .returned v ∧ w'.ownsRow w.heap.size 23 1 v 0 [] ∧ Below w.heap.size w w' := by
  have hq : ∀ (w : World) (n c n' c' : Nat), (binOp .eql 41 (.slice (some a) n c) (.slice none n' c')).run Try.prog w = .ok (.bool false) w := fun w n c n' c' => by simpa using Lib.run_eql_slice_nil w _ _ (some a) n c n' c' Try.underlying41
  have hbE := (Below.refl w.heap.size w).alloc (Nat.le_refl _) (.cells #[] 23)
  have O0 := Lib.hid (World.ownsRow_made (e := 23) (size := 1) (base := w.heap.size) w #[] 0 (Nat.le_refl _) (Nat.zero_le _) (by simp))
  go_enter Try.func44, Try.ntmps44
  go_wp2_with (at_builtin; refine app_src_arm Try.underlying41 infoDay rfl (by omega) (by omega) w.heap.size _ _ 0 [] O0.out (some a) 0 c [] rfl (.inr ⟨a, rfl, fun j u h => by simp at h⟩) (by simp) (by omega) (by simp) rfl _ _ rfl rfl rfl ?_; intro v' w1 ho hg)
  go_ret
  exact ⟨v', rfl, by simpa using ho, hbE.grown hg (by simp) (fun k hk => by simp [Value.ownBlock] at hk; omega)⟩
set_option maxRecDepth 100000 in
theorem cloneDy_any (p : Option Addr) (c : Nat) (D : List Int) (w : World) (hn : D.length ≤ 100000) (h : DaysIn w p D) :
    Calls Try.prog 44 #[.slice p D.length c] w fun e w' => ∃ v, e = .returned v ∧ w'.ownsRow w.heap.size 23 1 v D.length (dyC D) ∧ Below w.heap.size w w' := by
  match p, h with
  | none, h =>
    have hk : D = [] := by
      rcases h with h | ⟨b, o, h, _⟩
      · exact h
      · cases h
    subst hk
    have hcon := AnyE.slices_Clone_nil Try.laysCloneDy 0 c w
    change Calls Try.prog 44 _ _ _ at hcon
    exact hcon.mono fun e w' ⟨he, hw⟩ => ⟨_, he, by rw [hw]; exact World.ownsRow_nil _ _ _ _, by rw [hw]; exact Below.refl _ _⟩
  | some ⟨b, o, sp⟩, h =>
    by_cases h0 : D = []
    · subst h0; exact cloneDy0 _ c w
    obtain rfl : sp = none := by
      rcases h with h | ⟨b', o', hp, _⟩
      · exact absurd h h0
      · injection hp with hp; injection hp
    obtain ⟨i, hi, hz0, hz1, hz2⟩ := info_of infoDay
    have hcon := AnyE.slices_Clone Try.laysCloneDy i (.int .i64 0) 1 8 hi hz0 hz1 hz2 rfl (by omega) Try.sizeOf23 b o D.length c (dyC D) w (by rw [dyC_len]; omega) (by unfold maxLen; omega) (by omega) (fun j u hu => by
      have hj : j < D.length := by rw [← dyC_len]; exact (List.getElem?_eq_some_iff.1 hu).1
      rcases h with h | ⟨b', o', hp, hc⟩
      · subst h; simp at hj
      · injection hp with hp
        injection hp with h1 h2
        subst h1; subst h2
        rw [dyC_at D j hj] at hu
        rw [hc j hj]; exact hu) dyC_one
    change Calls Try.prog 44 _ _ _ at hcon
    exact hcon.mono fun e w' ⟨v', he, ho, _, hb⟩ => ⟨v', he, ho, hb⟩
/-- What sorting days leaves. -/
def SortedDays (B : Nat) (v : Value) (D : List Int) (w : World) (e : Ending) (w' : World) : Prop :=
  e = .returned (.tuple #[]) ∧ ∃ F : List Int, F.length = D.length ∧ F.Perm D ∧ (∀ i, i + 1 < F.length → F.getD i 0 ≤ F.getD (i + 1) 0) ∧ w'.ownsRow B 23 1 v F.length (dyC F) ∧ RowKit.Below B w w'
set_option maxRecDepth 100000 in
theorem sortDy_any (B : Nat) (v : Value) (D : List Int) (w : World) (hn : D.length ≤ 100000) (ho : w.ownsRow B 23 1 v D.length (dyC D)) :
    Calls Try.prog 45 #[v] w (SortedDays B v D w) := by
  by_cases h0 : D.length = 0
  · obtain rfl := List.eq_nil_of_length_eq_zero h0
    obtain ⟨p, c, rfl, -⟩ := own_slice ho
    have hcon := AnyM.slices_Sort_int_none Try.laysSort p c w
    change Calls Try.prog 45 _ _ _ at hcon
    refine hcon.mono ?_
    rintro e w' ⟨rfl, rfl⟩
    exact ⟨rfl, [], rfl, List.Perm.nil, (fun i hi => by simp at hi), ho, Below.refl _ _⟩
  · rcases ho.2 with ⟨_, h⟩ | ⟨g, c, cur, rfl, hg, hh, h2, h3, h4, h5⟩
    · omega
    have hlt : g < w.heap.size := (Array.getElem?_eq_some_iff.1 hh).1
    have hH := holds_of_blockI (ss := D) hh (by rw [Nat.mul_one] at h5; exact h5)
    have hcon := AnyM.slices_Sort_int Try.laysSort g 0 c D w hH hlt (by omega)
    change Calls Try.prog 45 _ _ _ at hcon
    refine hcon.mono ?_
    rintro e w' ⟨rfl, n, os, rfl⟩
    have hl : (D.mergeSort fun x y => decide (x ≤ y)).length = D.length := List.length_mergeSort D
    have hso : (D.mergeSort fun x y => decide (x ≤ y)).Pairwise (fun x y => decide (x ≤ y) = true) := List.pairwise_mergeSort (fun a b c h1 h2 => by simp at *; omega) (fun a b => by simp; omega) D
    refine ⟨rfl, D.mergeSort fun x y => decide (x ≤ y), hl, List.mergeSort_perm D _, fun i hi => ?_, by rw [hl]; exact ownsRow_sortedI hl hg hh h2 h3 h4, (Below.refl B w).grown (grownBy_sortedI _) (by omega) (fun k hk => by injection hk with hk; omega)⟩
    have := List.pairwise_iff_getElem.1 hso i (i + 1) (by omega) hi (by omega)
    rw [getD_at _ _ (by omega), getD_at _ _ hi]
    simpa using this

/-- What Pieces returns. -/
def PiecesPost (f t : Int) (D : List Int) (w : World) (e : Ending) (w' : World) : Prop :=
  ∃ (K : List Sp) (q : Option Addr) (c : Nat), e = .returned (.slice q K.length c) ∧ (t ≤ f → K = []) ∧ (f < t → ∃ r, CutsOf f t D r ∧ K = pcs f r t) ∧ K.length ≤ D.length + 1 ∧ SpansIn w' q K ∧ Below w.heap.size w w'
set_option maxHeartbeats 2000000 in
set_option maxRecDepth 100000 in
theorem Pieces_any (a b : Int) (p : Option Addr) (c : Nat) (D : List Int) (w : World) (hn : D.length ≤ 10000) (h : DaysIn w p D) :
    Calls Try.prog 28 #[.agg #[.int .i64 a, .int .i64 b], .slice p D.length c] w (PiecesPost a b D w) := by
  have hb1 := (Below.refl w.heap.size w).alloc (Nat.le_refl _) (.cells #[.int .i64 a, .int .i64 b] 39)
  have hz1 : (w.alloc (.cells #[.int .i64 a, .int .i64 b] 39)).heap.size = w.heap.size + 1 := by simp
  cases he : emB (a, b)
  case true =>
    have hab : b ≤ a := by simpa [emB] using he
    go_enter Try.func28, Try.ntmps28
    go_wp2_with fail
    refine (isEmpty_any _ _ _).mono ?_
    rintro e w2 ⟨rfl, hb2⟩
    rw [he]
    go_wp2
    go_ret
    exact ⟨[], none, 0, rfl, fun _ => rfl, fun h => absurd h (by omega), by simp, .inl rfl, hb1.trans (hb2.mono (by omega))⟩
  case false =>
    have hab : a < b := by simpa [emB] using he
    have x1 : (w.alloc (.cells #[.int .i64 a, .int .i64 b] 39)).cell? ⟨w.heap.size, 0, none⟩ = some (.int .i64 a) := by rw [World.cell?_alloc_new]; rfl
    have x2 : (w.alloc (.cells #[.int .i64 a, .int .i64 b] 39)).cell? ⟨w.heap.size, 1, none⟩ = some (.int .i64 b) := by rw [World.cell?_alloc_new]; rfl
    have x3 : (w.alloc (.cells #[.int .i64 a, .int .i64 b] 39)).frozen? ⟨w.heap.size, 0, none⟩ = false := new_unfrozen _ _ _ _
    have HI := Lib.hid h
    clear h
    go_enter Try.func28, Try.ntmps28
    go_wp2_with fail
    refine (isEmpty_any _ _ _).mono ?_
    rintro e w2 ⟨rfl, hb2⟩
    rw [he]
    have hz2 := hb2.size
    have HC := Lib.hid (cloneDy_any p c D w2 (by omega) (HI.out.below (hb1.trans (hb2.mono (by omega))) (Nat.le_refl _)))
    go_wp2_with fail
    refine (HC.out).mono ?_
    rintro e w3 ⟨v, rfl, ho, hb3⟩
    have HS := Lib.hid (sortDy_any w2.heap.size v D w3 (by omega) ho)
    have HO := Lib.hid ho
    clear ho HC
    go_wp2_with fail
    refine (HS.out).mono ?_
    rintro e w4 ⟨rfl, F, hFl, hFp, hFs, hoF, hb4⟩
    have hb5 := hb3.trans hb4
    have hb6 := (hb2.trans (hb5.mono hz2))
    have y1 := (hb6.cell (p := ⟨w.heap.size, 0, none⟩) (by show w.heap.size < _; omega)).trans x1
    have y2 := (hb6.cell (p := ⟨w.heap.size, 1, none⟩) (by show w.heap.size < _; omega)).trans x2
    have y3 := (hb6.frozen (p := ⟨w.heap.size, 0, none⟩) (by show w.heap.size < _; omega)).trans x3
    have hb7 := hb1.trans (hb6.mono (by omega))
    obtain ⟨q, cq, rfl, -⟩ := own_slice hoF
    have HD := Lib.hid (DaysIn.of_own hoF)
    have HGD : Hid (∀ a', q = some a' → w2.heap.size ≤ a'.block ∧ a'.block < w4.heap.size) := Lib.hid (fun a' ha => by subst ha; exact hoF.lt a'.block rfl)
    have HCU := Lib.hid (cutR_of (f := a) (t := b) hFp hFs)
    have hz4 := hb6.size
    have HFL := Lib.hid hFl
    have hFn : F.length ≤ 10000 := by omega
    obtain ⟨n, hnl⟩ : ∃ n, n = F.length := ⟨_, rfl⟩
    rw [← hnl] at hFn HCU ⊢
    have HN := Lib.hid hnl
    obtain ⟨ef, hef⟩ : ∃ ef : Nat → Int, ef = fun i => F.getD i 0 := ⟨_, rfl⟩
    rw [← hef] at HCU
    have HF : Hid (∀ i, F.getD i 0 = ef i) := Lib.hid (fun i => by rw [hef])
    clear hFl hFp hFs hoF hb3 hb4 hb5 hb6 x1 x2 x3 hb1 hb2 HS HO HI hnl hef
    go_wp2
    go_loopw [6, 8, 17] (fun uv _ kv wr => ∃ (k : Nat) (u : Value) (m : Nat) (cur : Int), k ≤ n ∧ kv = .int .i64 k ∧ u = uv ∧ wr.cell? ⟨w.heap.size, 0, none⟩ = some (.int .i64 cur) ∧ wr.cell? ⟨w.heap.size, 1, none⟩ = some (.int .i64 b) ∧ wr.frozen? ⟨w.heap.size, 0, none⟩ = false ∧ w4.heap.size ≤ wr.heap.size ∧ Hid (cur = (cutR a b ef k).getLastD a) ∧ Hid (m = (cutR a b ef k).length) ∧ Hid (wr.ownsRow w4.heap.size 39 2 u m (spC (prs a (cutR a b ef k)))) ∧ Hid (DaysIn wr q F) ∧ Below w.heap.size w wr) (fun _ _ kv _ => n - (RowKit.intOf kv).toNat)
    case atStart => exact ⟨0, _, 0, a, by omega, rfl, rfl, y1, y2, y3, Nat.le_refl _, Lib.hid rfl, Lib.hid rfl, Lib.hid (World.ownsRow_nil _ _ _ _), HD, hb7⟩
    case round =>
      obtain ⟨k, u, m, cur, hk, rfl, rfl, c0, c1, c2, hsz, HCR, HM, HO, HDI, hb⟩ := hrel
      clear HD y1 y2 y3 hb7
      have hml := cutR_len a b ef k
      rw [← HM.out] at hml
      have hgs : w.heap.size < wr.heap.size := by omega
      have HNB : Hid (some w.heap.size ≠ u.ownBlock) := Lib.hid (fun h => by have := (HO.out.lt w.heap.size h.symm).1; omega)
      by_cases hlt : k < n
      · rcases HDI.out with h | ⟨bd, od, rfl, hc⟩
        · have := HN.out; rw [h] at this; simp at this; omega
        have d0 := hc k (by rw [← HN.out]; exact hlt)
        rw [HF.out] at d0
        have i1 : (k : Int) < (n : Int) := by omega
        have hgd := HGD.out _ rfl
        dsimp only at hgd
        have HST : Hid (∀ r, r = cutR a b ef k → cutR a b ef (k + 1) = if r.getLastD a < ef k ∧ ef k < b then r ++ [ef k] else r) := Lib.hid (fun r hr => by subst hr; rfl)
        generalize hr : cutR a b ef k = r at *
        have hst := HST.out r rfl
        clear HST hc
        generalize ef k = x at *
        by_cases hx : cur < x ∧ x < b
        · obtain ⟨hx1, hx2⟩ := hx
          have HNX : Hid (cutR a b ef (k + 1) = r ++ [x]) := Lib.hid (by rw [hst, if_pos ⟨by rw [← HCR.out]; exact hx1, hx2⟩])
          clear hst
          have hal := (Below.refl wr.heap.size wr).alloc (Nat.le_refl _) (.cells [Value.int .i64 cur, .int .i64 x].toArray 39)
          have e0 := (hal.cell (p := ⟨w.heap.size, 0, none⟩) hgs).trans c0
          have e1 := (hal.cell (p := ⟨w.heap.size, 1, none⟩) hgs).trans c1
          have e2 := (hal.frozen (p := ⟨w.heap.size, 0, none⟩) hgs).trans c2
          have e3 := Lib.hid (HDI.out.below hal (Nat.le_refl _))
          have e4 := hb.alloc (by omega) (.cells [Value.int .i64 cur, .int .i64 x].toArray 39)
          have hsa : (wr.alloc (.cells [Value.int .i64 cur, .int .i64 x].toArray 39)).heap.size = wr.heap.size + 1 := by simp
          clear hal
          go_wp2_with (at_builtin; refine app_arm Try.underlying22 infoSpan rfl (by omega) (by omega) w4.heap.size wr _ m _ HO.out 1 [.int .i64 cur, .int .i64 x] rfl (spC_one (L := [(cur, x)])) (by omega) hsz rfl _ _ rfl rfl rfl ?_; intro v' w5 ho5 hg5; have z0 := hg5.cell (a := ⟨w.heap.size, 0, none⟩) e0 HNB.out; have z1 := hg5.cell (a := ⟨w.heap.size, 1, none⟩) e1 HNB.out; have z2 : w5.frozen? ⟨w.heap.size, 0, none⟩ = false := (World.frozen?_of_block (a := ⟨w.heap.size, 0, none⟩) (hg5.block w.heap.size (by omega) HNB.out)).trans e2; have HO5 := Lib.hid ho5; have HG5 := Lib.hid hg5; clear ho5 hg5 e0 e1 e2)
          have t0 : (w5.setCell ⟨w.heap.size, 0, none⟩ (.int .i64 x)).cell? ⟨w.heap.size, 0, none⟩ = some (.int .i64 x) := World.cell?_setCell_same _ _ _ z0
          have t1 : (w5.setCell ⟨w.heap.size, 0, none⟩ (.int .i64 x)).cell? ⟨w.heap.size, 1, none⟩ = some (.int .i64 b) := (World.cell?_setCell_other _ _ _ _ (fun e => by injection e with _ e; omega)).trans z1
          have t2 : (w5.setCell ⟨w.heap.size, 0, none⟩ (.int .i64 x)).frozen? ⟨w.heap.size, 0, none⟩ = false := by simpa using z2
          have hs5 := HG5.out.size
          refine ⟨⟨k + 1, v', m + 1, x, by omega, by go_num, rfl, t0, t1, t2, by simp; omega, Lib.hid ?_, Lib.hid ?_, Lib.hid ?_, Lib.hid ?_, (e4.grown HG5.out (by omega) (fun j hj => by have := (HO.out.lt j hj).1; omega)).setCell (p := ⟨w.heap.size, 0, none⟩) (Nat.le_refl _) _⟩, by simp [RowKit.intOf]; omega⟩
          · rw [HNX.out]; simp
          · rw [HNX.out, HM.out]; simp
          · rw [HNX.out, prs_snoc, spC_app, ← HCR.out]
            exact ownsRow_setCell_below HO5.out (by show w.heap.size < _; omega) _
          · exact DaysIn.far (DaysIn.kept e3.out HG5.out (fun a' ha h => by
              subst_vars
              injection ha with ha
              subst ha
              have h7 := (HO.out.lt _ h).1
              dsimp only at h7
              omega)) _ _ (fun a' ha => by injection ha with ha; subst ha; show w.heap.size ≠ bd; omega)
        · have HNX : Hid (cutR a b ef (k + 1) = r) := Lib.hid (by rw [hst, if_neg (by rw [← HCR.out]; exact hx)])
          clear hst
          by_cases hx1 : cur < x
          · have hx2 : ¬ x < b := fun h => hx ⟨hx1, h⟩
            go_wp2
            exact ⟨⟨k + 1, u, m, cur, by omega, by go_num, rfl, c0, c1, c2, hsz, Lib.hid (by rw [HNX.out]; exact HCR.out), Lib.hid (by rw [HNX.out]; exact HM.out), Lib.hid (by rw [HNX.out]; exact HO.out), HDI, hb⟩, by simp [RowKit.intOf]; omega⟩
          · go_wp2
            exact ⟨⟨k + 1, u, m, cur, by omega, by go_num, rfl, c0, c1, c2, hsz, Lib.hid (by rw [HNX.out]; exact HCR.out), Lib.hid (by rw [HNX.out]; exact HM.out), Lib.hid (by rw [HNX.out]; exact HO.out), HDI, hb⟩, by simp [RowKit.intOf]; omega⟩
      · obtain rfl : n = k := by omega
        have HL1 := HFL.out
        rw [← HN.out] at HL1
        go_wp2_with (at_builtin; refine app_arm Try.underlying22 infoSpan rfl (by omega) (by omega) w4.heap.size wr _ m _ HO.out 1 [.int .i64 cur, .int .i64 b] rfl (spC_one (L := [(cur, b)])) (by omega) hsz rfl _ _ rfl rfl rfl ?_; intro v' w5 ho5 hg5; have HO5 := Lib.hid ho5; have HG5 := Lib.hid hg5; clear ho5 hg5)
        go_ret
        have hsa : (wr.alloc (.cells [Value.int .i64 cur, .int .i64 b].toArray 39)).heap.size = wr.heap.size + 1 := by simp
        have hK : pcs a (cutR a b ef n) b = prs a (cutR a b ef n) ++ [(cur, b)] := by rw [pcs_snoc, ← HCR.out]
        have hKl : (pcs a (cutR a b ef n) b).length = m + 1 := by rw [pcs_len, HM.out]
        obtain ⟨q', cq', hv', -⟩ := own_slice HO5.out
        refine ⟨pcs a (cutR a b ef n) b, q', cq', by rw [hKl]; exact congrArg _ hv', fun h => absurd h (by omega), fun _ => ⟨_, HCU.out, rfl⟩, by omega, ?_, ?_⟩
        · have h8 := HO5.out
          rw [hv'] at h8
          refine SpansIn.of_own (n := m + 1) (c := cq') (base := w4.heap.size) (E := 39) ?_
          rw [hKl, hK, spC_app]
          exact h8
        · exact (hb.alloc (by omega) _).grown HG5.out (by rw [hsa]; omega) (fun j hj => by have := (HO.out.lt j hj).1; omega)

end Go.Proofs.Ytefcadngdcgpiaa
