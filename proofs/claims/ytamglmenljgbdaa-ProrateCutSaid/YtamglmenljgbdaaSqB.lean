/-
  What is proved: the contract of span.join: a span behind the others, joined to the last one where it touches it. Conditions: at most 100000 spans, in memory of the call's own.
-/
import Derived.Test.YtamglmenljgbdaaSqA
import Derived.Deep.QuietTactic
import Derived.BigQuiet
import Derived.BigRegion
namespace Go.Proofs.Ytamglmenljgbdaa.Sp
open Go Go.RowKit Go.Proofs

theorem spC_set : ∀ (K : List Sp) (l : Sp) (y : Int), (spC (K ++ [l])).set (K.length * 2 + 1) (.int .i64 y) = spC (K ++ [(l.1, y)])
  | [], l, y => rfl
  | s :: r, l, y => by
    have h := spC_set r l y
    show ([Value.int .i64 s.1, .int .i64 s.2] ++ spC (r ++ [l])).set _ _ = [Value.int .i64 s.1, .int .i64 s.2] ++ spC (r ++ [(l.1, y)])
    rw [← h, show (s :: r).length * 2 + 1 = (r.length * 2 + 1) + 1 + 1 by simp; omega]
    rfl
/-- Spans of a call's own, and what else it left. -/
def SpOwn (base B : Nat) (K : List Sp) (w : World) (e : Ending) (w' : World) : Prop := ∃ v, e = .returned v ∧ w'.ownsRow base 24 2 v K.length (spC K) ∧ Below B w w'

set_option maxHeartbeats 1000000 in
set_option maxRecDepth 100000 in
theorem join_any (base : Nat) (v : Value) (K : List Sp) (x y : Int) (w : World) (hn : K.length ≤ 100000) (ho : w.ownsRow base 24 2 v K.length (spC K)) (hbase : base ≤ w.heap.size) :
    Calls Try.prog 65 #[v, .agg #[.int .i64 x, .int .i64 y]] w (SpOwn base base (joinL K (x, y)) w) := by
  have hb1 := (Below.refl base w).alloc hbase (.cells #[.int .i64 x, .int .i64 y] 24)
  have HO1 := Lib.hid (ho.alloc (.cells #[.int .i64 x, .int .i64 y] 24))
  have x1 : (w.alloc (.cells #[.int .i64 x, .int .i64 y] 24)).cell? ⟨w.heap.size, 0, none⟩ = some (.int .i64 x) := by rw [World.cell?_alloc_new]; rfl
  have x2 : (w.alloc (.cells #[.int .i64 x, .int .i64 y] 24)).cell? ⟨w.heap.size, 1, none⟩ = some (.int .i64 y) := by rw [World.cell?_alloc_new]; rfl
  have hz1 : (w.alloc (.cells #[.int .i64 x, .int .i64 y] 24)).heap.size = w.heap.size + 1 := by simp
  clear ho
  cases he : emB (x, y)
  case true =>
    have hne : y ≤ x := by simpa [emB] using he
    rw [joinL_no (s := (x, y)) hne]
    go_enter Try.func65, Try.ntmps65
    go_wp2_with fail
    refine (isEmpty_any _ _ _).mono ?_
    rintro e w2 ⟨rfl, hb2⟩
    rw [he]
    have hb3 := hb1.trans (hb2.mono (by omega))
    have HO2 := Lib.hid (own_below HO1.out hb2 (Nat.le_refl _))
    clear x1 x2 hz1 HO1 hb1 hb2
    go_wp2
    go_ret
    exact ⟨_, rfl, HO2.out, hb3⟩
  case false =>
    have hne : x < y := by simpa [emB] using he
    rcases snoc_of K with rfl | ⟨K', l, rfl⟩
    · rw [joinL_nil (s := (x, y)) (by show ¬ y ≤ x; omega)]
      obtain ⟨p, c, rfl, -⟩ := own_slice HO1.out
      simp only [List.length_nil]
      go_enter Try.func65, Try.ntmps65
      go_wp2_with fail
      refine (isEmpty_any _ _ _).mono ?_
      rintro e w2 ⟨rfl, hb2⟩
      rw [he]
      have y1 := (hb2.cell (p := ⟨w.heap.size, 0, none⟩) (by show w.heap.size < _; omega)).trans x1
      have y2 := (hb2.cell (p := ⟨w.heap.size, 1, none⟩) (by show w.heap.size < _; omega)).trans x2
      have hb3 := hb1.trans (hb2.mono (by omega))
      have HO2 := Lib.hid (own_below HO1.out hb2 (Nat.le_refl _))
      clear x1 x2 hz1 HO1 hb1 hb2
      go_wp2
      have hB3 := Nat.le_trans hbase hb3.size
      go_quiet (fail)
      go_wp2_with (at_builtin; refine app_arm Try.underlying56 infoSpan rfl (by omega) (by omega) base (w2.drewN nq) _ 0 [] HO2.out 1 [.int .i64 x, .int .i64 y] rfl (spC_one (L := [(x, y)])) (by omega) hB3 rfl _ _ rfl rfl rfl ?_; intro v' w3 ho hg)
      go_ret
      exact ⟨v', rfl, ho, ((Below.drewsN hb3 _).alloc hB3 _).grown hg (by simp; omega) (fun k hk => (HO2.out.lt k hk).1)⟩
    · have hlen : (K' ++ [l]).length = K'.length + 1 := by simp
      rw [hlen] at hn HO1
      obtain ⟨g, c, rfl, hg0, hg1, hgc, hcell⟩ := own_cells HO1.out (by omega)
      have q2 : (w.alloc (.cells #[.int .i64 x, .int .i64 y] 24)).cell? ⟨g, K'.length * 2 + 1, none⟩ = some (.int .i64 l.2) := hcell _ _ (by
        have := (spC_at (K' ++ [l]) K'.length (by simp)).2
        simpa using this)
      have hfz := HO1.out.frozenAt (K'.length * 2 + 1)
      clear hcell
      obtain ⟨n, hN⟩ : ∃ n, n = K'.length := ⟨_, rfl⟩
      rw [← hN] at hn HO1 q2 hfz ⊢
      have HN := Lib.hid hN
      clear hN hlen
      obtain ⟨lx, ly⟩ := l
      dsimp only at q2
      have i0 : (0 : Int) < ((n + 1 : Nat) : Int) := by omega
      have i1 : (((n + 1 : Nat) : Int) - 1) = (n : Int) := by omega
      by_cases e : ly = x
      · rw [joinL_on (s := (x, y)) (l := (lx, ly)) (by show ¬ y ≤ x; omega) e]
        have eb : (ly == x) = true := by simp [e]
        subst e
        go_enter Try.func65, Try.ntmps65
        go_wp2_with fail
        refine (isEmpty_any _ _ _).mono ?_
        rintro e w2 ⟨rfl, hb2⟩
        rw [he]
        have y1 := (hb2.cell (p := ⟨w.heap.size, 0, none⟩) (by show w.heap.size < _; omega)).trans x1
        have y2 := (hb2.cell (p := ⟨w.heap.size, 1, none⟩) (by show w.heap.size < _; omega)).trans x2
        have q3 := (hb2.cell (p := ⟨g, n * 2 + 1, none⟩) hg1).trans q2
        have f3 := (hb2.frozen (p := ⟨g, n * 2 + 1, none⟩) hg1).trans hfz
        have hb3 := hb1.trans (hb2.mono (by omega))
        have HO2 := Lib.hid (own_below HO1.out hb2 (Nat.le_refl _))
        clear x1 x2 hz1 HO1 hb1 hb2 q2 hfz
        go_wp2
        go_quiet (fail)
        go_wp2
        go_ret
        obtain ⟨hst, hgr⟩ := World.ownsRow.stored (w := w2.drewN nq) HO2.out (n * 2 + 1) (.int .i64 y)
        refine ⟨_, rfl, ?_, (Below.drewsN hb3 nq).grown hgr (by show base ≤ w2.heap.size; have := hb3.size; omega) (fun k hk => by injection hk with hk; omega)⟩
        rw [HN.out] at hst ⊢
        rw [spC_set] at hst
        simpa using hst
      · have eb : (ly == x) = false := by simp [e]
        have ee : ¬ ly = x := e
        rw [joinL_off (s := (x, y)) (l := (lx, ly)) (by show ¬ y ≤ x; omega) e]
        clear e
        go_enter Try.func65, Try.ntmps65
        go_wp2_with fail
        refine (isEmpty_any _ _ _).mono ?_
        rintro e w2 ⟨rfl, hb2⟩
        rw [he]
        have y1 := (hb2.cell (p := ⟨w.heap.size, 0, none⟩) (by show w.heap.size < _; omega)).trans x1
        have y2 := (hb2.cell (p := ⟨w.heap.size, 1, none⟩) (by show w.heap.size < _; omega)).trans x2
        have q3 := (hb2.cell (p := ⟨g, n * 2 + 1, none⟩) hg1).trans q2
        have hb3 := hb1.trans (hb2.mono (by omega))
        have HO2 := Lib.hid (own_below HO1.out hb2 (Nat.le_refl _))
        have hB3 := Nat.le_trans hbase hb3.size
        clear x1 x2 hz1 HO1 hb1 hb2 q2 hfz
        go_wp2
        go_quiet (fail)
        go_wp2_with (at_builtin; refine app_arm Try.underlying56 infoSpan rfl (by omega) (by omega) base (w2.drewN nq) _ (n + 1) _ HO2.out 1 [.int .i64 x, .int .i64 y] rfl (spC_one (L := [(x, y)])) (by omega) hB3 rfl _ _ rfl rfl rfl ?_; intro v' w3 ho hg)
        go_ret
        refine ⟨v', rfl, ?_, ((Below.drewsN hb3 nq).alloc hB3 _).grown hg (by simp; omega) (fun k hk => (HO2.out.lt k hk).1)⟩
        rw [spC_app, List.length_append, List.length_append, ← HN.out]
        exact ho

end Go.Proofs.Ytamglmenljgbdaa.Sp
