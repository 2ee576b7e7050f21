/-
  What is proved: the walk of LexTells. Conditions: the variable ErrRange holds an error.
-/
import Derived.Test.YtlfcmelencdghaaDoorLxI
import Derived.Test.YtlfcmelencdghaaDoorLxM
namespace Go.Proofs.YtlfcmelencdghaaDoor
open Go Go.RowKit Go.Lib Go.Proofs
set_option linter.unusedVariables false

theorem neqRTok (k a k' a' : Int) (x x' : ByteArray) (W : World) : (binOp .neq 33 (.agg #[.int .i64 k, .string x, .int .i64 a]) (.agg #[.int .i64 k', .string x', .int .i64 a'])).run Tryd.prog W = .ok (.bool (!(k == k' && (decide (x.toList = x'.toList) && a == a')))) W := by
  have hs : Tryd.prog.stoodInHeld 33 = false := by kernel_rfl
  have hu1 := Tryd.underlying33
  have hu2 := Tryd.underlying3
  have hu3 := Tryd.underlying9
  cases h0 : (k == k')
  · simp [go_sem, Program.fieldsOf, Op.eqFields, part, hu1, hu2, hu3, hs, h0]
  by_cases h1 : x.toList = x'.toList
  · cases h2 : (a == a') <;> simp [go_sem, Program.fieldsOf, Op.eqFields, part, hu1, hu2, hu3, hs, h0, h1, h2]
  · simp [go_sem, Program.fieldsOf, Op.eqFields, part, hu1, hu2, hu3, hs, h0, h1]

/-- All tells words that lie in memory. -/
def AllIn (A : Ans) (w : World) (e : Ending) (w' : World) : Prop :=
  ∃ p c, e = .returned (.tuple #[.slice p A.l.length c, .int .i64 (A.p : Int), .int .i64 A.e]) ∧ ToksIn w' p A.l ∧ Below w.heap.size w w'
theorem AllOk.in {E : TypeId} {A : Ans} {w w' : World} {e : Ending} (h : AllOk E A w e w') : AllIn A w e w' := by
  obtain ⟨p, n, c, rfl, rfl, ho, hb⟩ := h
  exact ⟨p, c, rfl, ToksIn.of_own ho, hb⟩

set_option maxHeartbeats 2000000 in
set_option maxRecDepth 100000 in
theorem walkLexTells (s : ByteArray) (w : World) (w0 : s.size ≤ maxLen) (hS : Sent w) :
    Calls Tryd.prog 4 #[.string s] w fun e w' => e = .returned (.bool true) ∧ Below w.heap.size w w' := by
  unfold maxLen at w0
  have HS := Lib.hid hS
  have HW := Lib.hid (fun W (h : Sent W) => awake_any W h)
  clear hS
  by_cases h1 : 5000 < s.size
  · have i1 : (5000 : Int) < (s.size : Int) := by omega
    clear h1
    go_enter Tryd.func4, Tryd.ntmps4
    go_wp2_with fail
    refine (HW.out _ HS.out).mono ?_
    rintro e w1 ⟨rfl, hb1⟩
    go_wp2
    go_ret
    exact ⟨rfl, hb1⟩
  · have i1 : ¬ (5000 : Int) < (s.size : Int) := by omega
    have H1 := Lib.hid ((All_any s (by omega) w HS.out).mono fun _ _ h => h.in)
    have H2 := Lib.hid (fun W => (refAll_any s (by omega) W).mono fun _ _ h => h.in)
    have hL := lexS_len s.data.toList
    generalize lexS s.data.toList = A at H1 H2 hL
    obtain ⟨L, P, E⟩ := A
    unfold AllIn at H1 H2
    dsimp only at H1 H2 hL
    clear h1
    go_enter Tryd.func4, Tryd.ntmps4
    go_wp2_with fail
    refine (H1.out).mono ?_
    rintro e w1 ⟨p, c, rfl, ht1, hb1⟩
    have T1 := Lib.hid ht1
    clear ht1
    go_wp2_with fail
    refine (H2.out _).mono ?_
    rintro e w2 ⟨q, d, rfl, ht2, hb2⟩
    have T2 := Lib.hid ht2
    have T3 := Lib.hid (T1.out.below hb2 (Nat.le_refl _))
    have hb3 := hb1.trans (hb2.mono hb1.size)
    obtain ⟨n, hn⟩ : ∃ n, n = L.length := ⟨_, rfl⟩
    have HN := Lib.hid hn
    rw [← hn]
    have hn4 : (n : Int) ≤ 4097 := by omega
    clear hL ht2 T1 H1 H2 hn
    go_wp2
    go_loopw [43] (fun kv wr => ∃ k : Nat, k ≤ n ∧ kv = .int .i64 k ∧ Below w2.heap.size w2 wr) (fun kv _ => n - (RowKit.intOf kv).toNat)
    case atStart => exact ⟨0, by omega, rfl, Below.refl _ _⟩
    case round =>
      obtain ⟨k, hk, rfl, hb⟩ := hrel
      by_cases hlt : k < n
      · rcases T3.out with h | ⟨b, o, rfl, hc⟩
        · have := HN.out; rw [h] at this; simp at this; omega
        rcases T2.out with h | ⟨b', o', rfl, hc'⟩
        · have := HN.out; rw [h] at this; simp at this; omega
        obtain ⟨x1, x2, x3⟩ := hc k (by rw [← HN.out]; exact hlt)
        obtain ⟨y1, y2, y3⟩ := hc' k (by rw [← HN.out]; exact hlt)
        have a1 := (hb.cell (p := ⟨b, o + k * 3, none⟩) (World.block_lt_of_cell? _ _ x1)).trans x1
        have a2 := (hb.cell (p := ⟨b, o + k * 3 + 1, none⟩) (World.block_lt_of_cell? _ _ x2)).trans x2
        have a3 := (hb.cell (p := ⟨b, o + k * 3 + 2, none⟩) (World.block_lt_of_cell? _ _ x3)).trans x3
        have a4 := (hb.cell (p := ⟨b', o' + k * 3, none⟩) (World.block_lt_of_cell? _ _ y1)).trans y1
        have a5 := (hb.cell (p := ⟨b', o' + k * 3 + 1, none⟩) (World.block_lt_of_cell? _ _ y2)).trans y2
        have a6 := (hb.cell (p := ⟨b', o' + k * 3 + 2, none⟩) (World.block_lt_of_cell? _ _ y3)).trans y3
        have i2 : (k : Int) < (n : Int) := by omega
        clear hc hc' x1 x2 x3 y1 y2 y3
        generalize L.getD k noTo = t at a1 a2 a3 a4 a5 a6
        obtain ⟨t1, t2, t3⟩ := t
        dsimp only at a1 a2 a3 a4 a5 a6
        generalize (⟨t2.toArray⟩ : ByteArray) = x at a2 a5
        have hq : ∀ W, (binOp .neq 33 (.agg #[.int .i64 t1, .string x, .int .i64 (t3 : Int)]) (.agg #[.int .i64 t1, .string x, .int .i64 (t3 : Int)])).run Tryd.prog W = .ok (.bool false) W := fun W => by rw [neqRTok]; simp
        have hgs : Tryd.prog.eqGuardType Tryd.prog.depth 33 = false := by kernel_rfl
        go_wp2
        go_quiet (fail)
        go_wp2
        exact ⟨⟨k + 1, by omega, by go_num, below_drewN hb _⟩, by simp [RowKit.intOf]; omega⟩
      · obtain rfl : k = n := by omega
        go_wp2_with fail
        refine (HW.out _ ((HS.out.below (Nat.le_refl _) hb3).below (Nat.le_refl _) hb)).mono ?_
        rintro e w4 ⟨rfl, hb4⟩
        go_wp2
        go_ret
        exact ⟨rfl, hb3.trans ((hb.trans (hb4.mono hb.size)).mono hb3.size)⟩

end Go.Proofs.YtlfcmelencdghaaDoor
