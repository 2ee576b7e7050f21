/-
  What is proved: how a map from weeks to sums lies in memory, by a function: what a look-up and a store of it do. Conditions: weeks within 10^9 days of the calendar's beginning, at most 10^6 entries.
-/
import Derived.Test.YtlfflnfodnegnaaSkA
import Derived.Maps.OwnSet
import Derived.Maps.Views
import Derived.DeepKeys4
namespace Go.Proofs.Ytlfflnfodnegnaa
open Go Go.RowKit Go.Proofs
open Go.Maps (Keyed)
set_option linter.unusedVariables false

theorem laidOut : laidOutB Try.prog = true := by kernel_rfl
theorem rowW : (59 : TypeId) < Try.prog.types.size := of_decide_eq_true (by kernel_rfl)
theorem wideW : (match Try.prog.underlying 59 with | some (.array _ _) | some (.struct _) => true | _ => false) = true := by kernel_rfl
theorem lawW : Keyed Try.prog 59 := Keyed.of_law (deep_law_laid laidOut (m := 3) (by omega) rowW (by kernel_rfl) wideW)
/-- What a week reads as. -/
def kL (m : Int) : Lit := .string (keyBytes [.int .i64 m])
def wkv (m : Int) : Value := .agg #[.int .i64 m]
theorem kL_of {m : Int} (h : (Lit.int .i64 m).wf = true) : keyOf Try.prog 59 (wkv m) = some (kL m) := by
  have h1 : Try.prog.keyType 59 = true := by kernel_rfl
  have h2 : (wkv m).formed Try.prog 59 = true := by kernel_rfl
  have c1 : Try.prog.cellsOf 59 = 1 := by kernel_rfl
  have c2 : Try.prog.cellsOf 25 = 1 := by kernel_rfl
  have h3 : ∀ d, Try.prog.keyLits (d + 2) 59 [.int .i64 m] = some [.int .i64 m] := fun d => by
    unfold Program.keyLits
    simp only [Try.underlying59]
    simp [c1, c2]
    unfold Program.keyLits
    simp only [Try.underlying25]
    simp [h]
  have h4 : ∃ d, Try.prog.types.size + 1 = d + 2 := ⟨Try.prog.types.size - 1, by have h0 : (0 : Nat) < Try.prog.types.size := of_decide_eq_true (by kernel_rfl); omega⟩
  obtain ⟨d, hd⟩ := h4
  have h5 : (wkv m).cells.toList = [.int .i64 m] := rfl
  unfold keyOf
  simp only [Try.underlying59]
  rw [h1, h2, hd, h5, h3]
  rfl

/-- Every element reads as itself. -/
def hR (v : Value) : Option (DataW Value × List MemPlace) := some (.held v, [])
def sv (x : Int × Hr) : Value := .agg #[.int .i64 x.1, .int .i64 x.2.1, .int .i64 x.2.2.1, .int .i64 x.2.2.2]
def zd : DataW Value := .held (sv (0, 0, 0, 0))
/-- A map from weeks to sums, by a function and the weeks that it has. -/
def MapIs (w : World) (b n : Nat) (S : St) (ks : List Int) : Prop :=
  ∃ D : DataW Value, w.ownsMap Try.prog 59 hR b n D ∧ (∀ m, (Lit.int .i64 m).wf = true → D.atKey (kL m) zd = .held (sv (S m))) ∧ (∀ kl, Maps.has D kl = true → ∃ m ∈ ks, kl = kL m) ∧ (∀ m ∈ ks, (Lit.int .i64 m).wf = true ∧ Maps.has D (kL m) = true)
theorem kL_inj {m k : Int} (hm : (Lit.int .i64 m).wf = true) (hk : (Lit.int .i64 k).wf = true) (h : kL m = kL k) : m = k := by
  have := lawW.inj (kL_of hm) (by rw [h]; exact kL_of hk)
  simpa [wkv] using this
theorem kL_key (m : Int) : WideAt.IsKeyLit (kL m) := trivial
theorem MapIs.made (w : World) : MapIs (w.alloc (.map #[] 0)) w.heap.size 0 (fun _ => (0, 0, 0, 0)) [] :=
  ⟨.map [], World.ownsMap_made _ _ _ _, fun m _ => rfl, fun kl h => by simp [Maps.has] at h, fun m h => by cases h⟩
theorem MapIs.lt {w : World} {b n : Nat} {S : St} {ks : List Int} (h : MapIs w b n S ks) : b < w.heap.size := by
  obtain ⟨D, h, -⟩ := h
  exact h.lt
theorem MapIs.block {w w' : World} {b n : Nat} {S : St} {ks : List Int} (h : MapIs w b n S ks) (e : w'.heap[b]? = w.heap[b]?) : MapIs w' b n S ks := by
  obtain ⟨D, ⟨es, clock, h0, r⟩, h1⟩ := h
  exact ⟨D, ⟨es, clock, e.trans h0, r⟩, h1⟩
theorem MapIs.below {w w' : World} {b n : Nat} {S : St} {ks : List Int} (h : MapIs w b n S ks) (hb : Below w.heap.size w w') : MapIs w' b n S ks := h.block (hb.block b h.lt)
theorem MapIs.grown {w w' : World} {b n : Nat} {S : St} {ks : List Int} {row : Option Nat} (h : MapIs w b n S ks) (hg : w.grownBy w' row) (hne : row ≠ some b) : MapIs w' b n S ks := h.block (hg.block b h.lt (fun e => hne e.symm))
theorem MapIs.mono {w : World} {b n k : Nat} {S : St} {ks : List Int} (h : MapIs w b n S ks) (hk : n ≤ k) : MapIs w b k S ks := by
  obtain ⟨D, h0, h1⟩ := h
  exact ⟨D, h0.mono hk, h1⟩
theorem zeroS (w : World) : (zeroValue 64).run Try.prog w = .ok (sv (0, 0, 0, 0)) w := by kernel_rfl
theorem MapIs.look {w : World} {b n : Nat} {S : St} {ks : List Int} (h : MapIs w b n S ks) {m : Int} (hm : (Lit.int .i64 m).wf = true) : (Instr.lookup 53 (.map (some b)) (wkv m) false).run Try.prog w = .ok (sv (S m)) w := by
  obtain ⟨D, h0, h1, -⟩ := h
  obtain ⟨v, ps, hr, hv⟩ := h0.lookup lawW Try.underlying53 (zeroS w) (zd := zd) (zp := []) rfl (kL_of hm)
  rw [h1 m hm] at hv
  simp only [hR, Option.some.injEq, Prod.mk.injEq, DataW.held.injEq] at hv
  rw [← hv.1]
  exact hr
theorem MapIs.store {w : World} {b n : Nat} {S : St} {ks : List Int} (h : MapIs w b n S ks) (hn : n < 1000000) {m : Int} (hm : (Lit.int .i64 m).wf = true) (x : Int × Hr) :
    ∃ w', (Instr.mapUpdate 53 (.map (some b)) (wkv m) (sv x)).run Try.prog w = .ok () w' ∧ MapIs w' b (n + 1) (fun k => if k = m then x else S k) (m :: ks) ∧ w.grownBy w' (some b) := by
  obtain ⟨D, h0, h1, h2, h3⟩ := h
  obtain ⟨w', hr, h4, h5⟩ := h0.update lawW Try.underlying53 (by unfold maxLen; omega) (kL_of hm) (val := sv x) (d := .held (sv x)) (ps := []) rfl
  have hD := h0.isMap
  refine ⟨w', hr, ⟨_, h4, fun k hk => ?_, fun kl hk => ?_, fun k hk => ?_⟩, h5⟩
  · show _ = DataW.held (sv (if k = m then x else S k))
    by_cases e : k = m
    · rw [if_pos e, e]; exact Maps.atKey_put_same hD (kL_key m) _ _
    · rw [if_neg e, Maps.atKey_put_other (fun h => e (kL_inj hk hm h))]; exact h1 k hk
  · by_cases e : kl = kL m
    · exact ⟨m, List.mem_cons_self .., e⟩
    · rw [Maps.has_put_other e] at hk
      obtain ⟨k, hk1, hk2⟩ := h2 kl hk
      exact ⟨k, List.mem_cons_of_mem _ hk1, hk2⟩
  · by_cases e : k = m
    · rw [e]; exact ⟨hm, Maps.has_put_same hD (kL_key m) _⟩
    · rcases List.mem_cons.1 hk with h | h
      · exact absurd h e
      · refine ⟨(h3 k h).1, ?_⟩
        rw [Maps.has_put_other (fun h' => e (kL_inj (h3 k h).1 hm h'))]; exact (h3 k h).2

end Go.Proofs.Ytlfflnfodnegnaa
