/-
  What is proved: maps.Keys of the map of weeks gives each week that the map has, once. Conditions: the map lies in memory as its function says.
-/
import Derived.Test.YtlfflnfodnegnaaSkE
import Derived.Shelf.SlIter.Collect
import Derived.RangeFuncBound
namespace Go.Proofs.Ytlfflnfodnegnaa
open Go Go.RowKit Go.Proofs Go.Maps
set_option linter.unusedVariables false

/-- What has come of the keys. -/
def ColW (D : DataW Value) (left : Lit → Bool) (ss : List Int) : Prop := ss.Nodup ∧ ∀ m, m ∈ ss ↔ ((Lit.int .i64 m).wf = true ∧ Maps.has D (kL m) = true ∧ left (kL m) = false)
theorem ColW.start (D : DataW Value) : ColW D (Maps.has D) [] := ⟨List.nodup_nil, fun m => Iff.intro (fun h => by cases h) (fun h => by have b := h.2.2; rw [h.2.1] at b; cases b)⟩
theorem ColW.step {D : DataW Value} {left : Lit → Bool} {ss : List Int} (h : ColW D left ss) {m : Int} (hm : (Lit.int .i64 m).wf = true) (hl : left (kL m) = true) (hh : Maps.has D (kL m) = true) : ColW D (fun z => left z && !z.sameKey (kL m)) (ss ++ [m]) := by
  obtain ⟨h1, h2⟩ := h
  have hn : m ∉ ss := fun h => by have := ((h2 m).1 h).2.2; rw [hl] at this; cases this
  refine ⟨?_, fun k => ?_⟩
  · rw [List.nodup_append]
    refine ⟨h1, by simp, fun a ha b hb e => ?_⟩
    rw [List.mem_singleton] at hb
    exact hn (by rw [← hb, ← e]; exact ha)
  · show k ∈ ss ++ [m] ↔ ((Lit.int .i64 k).wf = true ∧ Maps.has D (kL k) = true ∧ (left (kL k) && !(kL k).sameKey (kL m)) = false)
    rw [List.mem_append, List.mem_singleton]
    by_cases e : k = m
    · rw [e, WideAt.sameKey_self (kL_key m)]; simp [hm, hh]
    · constructor
      · rintro (h | h)
        · obtain ⟨a, b, c⟩ := (h2 k).1 h
          exact ⟨a, b, by rw [c]; rfl⟩
        · exact absurd h e
      · rintro ⟨a, b, c⟩
        refine .inl ((h2 k).2 ⟨a, b, ?_⟩)
        rw [Maps.sameKey_ne (fun h => e (kL_inj a hm h))] at c
        simpa using c
/-- The weeks of a map, each once. -/
def OnceOf (ks : List Int) (ss : List Int) : Prop := ss.Nodup ∧ ∀ m, m ∈ ss ↔ m ∈ ks

set_option maxRecDepth 100000 in
set_option maxHeartbeats 1000000 in
theorem keys1_in (n : Nat) (hn : 1 ≤ n) (l Bm b nn : Nat) (D0 : DataW Value) (ks : List Int) (J : List Int → World → Prop)
    (h2 : ∀ kl, Maps.has D0 kl = true → ∃ m ∈ ks, kl = kL m) (h3 : ∀ m ∈ ks, (Lit.int .i64 m).wf = true ∧ Maps.has D0 (kL m) = true)
    (hY : ∀ pre x W, J pre W → pre.length < Maps.size D0 → YieldAt Fence.wide (n - 1) Try.prog l #[.agg #[.int .i64 x]] W fun e W' => e = .returned (.bool true) ∧ J (pre ++ [x]) W' ∧ KeepsWalks W W')
    (W : World) (hJ : AbidesFrom W.heap.size J) (hm : W.cell? ⟨Bm, 0, none⟩ = some (.map (some b))) (hown : W.ownsMap Try.prog 59 hR b nn D0) (h0 : J [] W) :
    CallsIn Fence.wide n Try.prog 31 #[.func (.yield l) #[] #[], .pointer (some ⟨Bm, 0, none⟩)] W fun e W' => (∃ v, e = .returned v) ∧ ∃ ss : List Int, OnceOf ks ss ∧ J ss W' := by
  refine callsIn_of_wp Try.func31 rfl trivial ?_ rfl
  simp only [Try.ntmps31, List.size_toArray, List.length_cons, List.length_nil, Nat.reduceAdd, Nat.reduceSub, Array.replicate_succ, Array.replicate_zero, List.push_toArray, List.append_toArray, List.nil_append, List.cons_append]
  gi_wp2_with (first
    | (gi_at_range; refine wpListIn_range_own _ rfl _ 53 rfl 59 64 lawW Try.underlying53 _ b nn _ rfl hown ?_; intro w0 hrg0 hg0 hs0)
    | gi_in)
  go_frame
  gi_loopw [3] (fun _ wr => ∃ (left : Lit → Bool) (cnt : Nat) (ss : List Int), wr.ranges Try.prog 59 hR b W.heap.size nn D0 left cnt ∧ ss.length + cnt ≤ Maps.size D0 ∧ ColW D0 left ss ∧ J ss wr)
    (fun _ wr => wr.rangeLeft b W.heap.size)
  case atStart =>
    exact ⟨_, _, [], hrg0, by simp, ColW.start D0, hJ [] W w0 none h0 hg0 (fun r e => by cases e)⟩
  case round =>
    obtain ⟨left, cnt, ss, hrg, hcs, hC, hJs⟩ := hrel
    gi_wp2_with (first
      | (gi_at_next; refine wpListIn_next_ranges _ rfl _ rfl 59 lawW hR id id (fun key kl hk => ⟨key, rfl⟩) (fun v _ _ => ⟨v, rfl⟩) b W.heap.size nn _ _ _ rfl hrg ?_ ?_)
      | gi_in)
    · intro hc0 hl0
      gi_wp2
      go_end0
      refine ⟨⟨_, rfl⟩, ss, ⟨hC.1, fun m => ?_⟩, hJs⟩
      rw [hC.2 m]
      constructor
      · rintro ⟨a, c, -⟩
        obtain ⟨k, hk, e⟩ := h2 _ c
        rw [kL_inj a (h3 k hk).1 e]; exact hk
      · intro h; exact ⟨(h3 m h).1, (h3 m h).2, hl0 _⟩
    · intro x c kl yd yp w2 cnt2 hkey hlk hv hat hrg2 hlt hg2 hs2 hen
      have hhas : Maps.has D0 kl = true := Maps.has_true_of_atKey hat
      obtain ⟨m, hm1, rfl⟩ := h2 kl hhas
      obtain ⟨hmw, -⟩ := h3 m hm1
      obtain rfl : x = .agg #[.int .i64 m] := lawW.inj hkey (kL_of hmw)
      have hJ2 : J ss w2 := hJ ss wr w2 (some W.heap.size) hJs hg2 (fun r e => by cases e; exact ⟨Nat.le_refl _, hrg.iter_walk⟩)
      have hJ3 : J ss (w2.alloc (.cells #[.int .i64 m] 59)) := hJ ss w2 _ none hJ2 (World.grownBy_alloc _ _ _) (fun r e => by cases e)
      obtain ⟨fn, tmps, assign, body, hy, hR⟩ := hY ss m _ hJ3 (by omega)
      clear hs2
      gi_wp2
      refine hR.mono ?_
      rintro e W3 ⟨rfl, hJ3, hk3⟩
      gi_wp2
      have hrg3 := (hrg2.of_walks (KeepsWalks.alloc _ _)).of_walks hk3
      go_roundw
      case rel => exact ⟨_, cnt2, ss ++ [m], hrg3, by simp; omega, hC.step hmw hlk hhas, hJ3⟩
      case measure => rw [hrg3.left_eq, hrg.left_eq]; exact hlt

end Go.Proofs.Ytlfflnfodnegnaa
