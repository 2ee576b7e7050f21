/-
  What is proved: what is wrong with a table, as a plain function; bands that lie in memory; the contracts of band.Check and of the document's Check. Conditions: slices are shorter than 2^62.
-/
import Derived.Test.YtbflgckmhhmklaaTxMath
import Derived.Test.YtbflgckmhhmklaaRows
import Derived.Test.YtbflgckmhhmklaaChecked
import Derived.WalkKit
import Derived.WalkSpells
import Derived.WalkLawsBesides
import Derived.BigCall
import Derived.BigGuard
import Derived.Lib.Hide
import Derived.Lib.Walk
import Derived.Lib.MinMax
import Derived.Deep.QuietTactic
import Derived.BigQuiet
import Derived.LoopTactic
import Derived.IntWalk
import Derived.Deep.Cut
namespace Go.Proofs.Ytbflgckmhhmklaa
open Go Go.RowKit Go.Proofs
set_option linter.unusedVariables false

/-- What is wrong at a band. -/
def chkAt (f : Nat → Bd) (i : Nat) : Int :=
  if (i = 0 ∧ (f i).1 ≠ 0) ∨ (0 < i ∧ (f i).1 ≤ (f (i - 1)).1) then 8 else if 1125899906842624 < (f i).1 ∨ (f i).2 < 0 ∨ 1000000 < (f i).2 then 2 else 0
/-- What is wrong first, of so many bands. -/
def chkR (f : Nat → Bd) : Nat → Int
  | 0 => 0
  | k + 1 => if chkR f k = 0 then chkAt f k else chkR f k
/-- What is wrong with a table. -/
def chkT (f : Nat → Bd) (n : Nat) : Int := if 64 < n then 5 else chkR f n
theorem chkR_keep {f : Nat → Bd} {k : Nat} {e : Int} (h : chkR f k = e) (he : e ≠ 0) : ∀ m, k ≤ m → chkR f m = e
  | 0, hm => by obtain rfl : k = 0 := by omega
                exact h
  | m + 1, hm => by
    by_cases hk : k = m + 1
    · rw [← hk]; exact h
    · have := chkR_keep h he m (by omega)
      unfold chkR
      rw [if_neg (by rw [this]; exact he), this]
theorem chkT_at {f : Nat → Bd} {n k : Nat} (hn : n ≤ 64) (hk : k < n) (h0 : chkR f k = 0) (he : chkAt f k ≠ 0) : chkT f n = chkAt f k := by
  unfold chkT
  rw [if_neg (by omega)]
  exact chkR_keep (k := k + 1) (by unfold chkR; rw [if_pos h0]) he n hk
theorem chkR_ok {f : Nat → Bd} : ∀ n, chkR f n = 0 → ∀ i, i < n → chkAt f i = 0
  | 0, _, i, hi => by omega
  | n + 1, h, i, hi => by
    unfold chkR at h
    by_cases h0 : chkR f n = 0
    · rw [if_pos h0] at h
      by_cases e : i = n
      · rw [e]; exact h
      · exact chkR_ok n h0 i (by omega)
    · rw [if_neg h0] at h; exact absurd h h0
theorem chkAt_ok {f : Nat → Bd} {i : Nat} (h : chkAt f i = 0) : (i = 0 → (f i).1 = 0) ∧ (0 < i → (f (i - 1)).1 < (f i).1) ∧ bdOk (f i) := by
  unfold chkAt at h
  split at h
  · cases h
  · rename_i h1
    split at h
    · cases h
    · rename_i h2
      refine ⟨fun h0 => ?_, fun h0 => ?_, ?_⟩
      · by_cases e : (f i).1 = 0
        · exact e
        · exact absurd (Or.inl ⟨h0, e⟩) h1
      · by_cases e : (f i).1 ≤ (f (i - 1)).1
        · exact absurd (Or.inr ⟨h0, e⟩) h1
        · omega
      · unfold bdOk; omega
/-- A right table. -/
theorem chkT_ok {f : Nat → Bd} {n : Nat} (h : chkT f n = 0) : n ≤ 64 ∧ Rises f n := by
  unfold chkT at h
  split at h
  · cases h
  · have ha := chkR_ok n h
    exact ⟨by omega, fun h0 => (chkAt_ok (ha 0 h0)).1 rfl, fun i hi => (chkAt_ok (ha i hi)).2.2, fun i hi => (chkAt_ok (ha (i + 1) hi)).2.1 (by omega)⟩
/-- The ways of a band, as the tests see it: the first one. -/
theorem chk_ways0 (f : Nat → Bd) (k : Nat) (hk : k = 0) :
    (chkAt f k = 8 ∧ ((f k).1 != 0) = true) ∨
    (chkAt f k = 2 ∧ ((f k).1 != 0) = false ∧ decide (1125899906842624 < (f k).1) = true) ∨
    (chkAt f k = 2 ∧ ((f k).1 != 0) = false ∧ decide (1125899906842624 < (f k).1) = false ∧ decide ((f k).2 < 0) = true) ∨
    (chkAt f k = 2 ∧ ((f k).1 != 0) = false ∧ decide (1125899906842624 < (f k).1) = false ∧ decide ((f k).2 < 0) = false ∧ decide (1000000 < (f k).2) = true) ∨
    (chkAt f k = 0 ∧ ((f k).1 != 0) = false ∧ decide (1125899906842624 < (f k).1) = false ∧ decide ((f k).2 < 0) = false ∧ decide (1000000 < (f k).2) = false) := by
  unfold chkAt
  simp only [decide_eq_true_eq, decide_eq_false_iff_not, bne_iff_ne, bne_eq_false_iff_eq]
  generalize (f (k - 1)).1 = p
  generalize (f k).1 = a
  generalize (f k).2 = r
  by_cases h0 : a = 0
  · rw [if_neg (show ¬ ((k = 0 ∧ a ≠ 0) ∨ (0 < k ∧ a ≤ p)) by omega)]
    by_cases h1 : 1125899906842624 < a ∨ r < 0 ∨ 1000000 < r
    · rw [if_pos h1]; omega
    · rw [if_neg h1]; omega
  · rw [if_pos (Or.inl ⟨hk, h0⟩)]; omega
theorem chk_ways (f : Nat → Bd) (k : Nat) (hk : 0 < k) :
    (chkAt f k = 8 ∧ decide ((f k).1 ≤ (f (k - 1)).1) = true) ∨
    (chkAt f k = 2 ∧ decide ((f k).1 ≤ (f (k - 1)).1) = false ∧ decide (1125899906842624 < (f k).1) = true) ∨
    (chkAt f k = 2 ∧ decide ((f k).1 ≤ (f (k - 1)).1) = false ∧ decide (1125899906842624 < (f k).1) = false ∧ decide ((f k).2 < 0) = true) ∨
    (chkAt f k = 2 ∧ decide ((f k).1 ≤ (f (k - 1)).1) = false ∧ decide (1125899906842624 < (f k).1) = false ∧ decide ((f k).2 < 0) = false ∧ decide (1000000 < (f k).2) = true) ∨
    (chkAt f k = 0 ∧ decide ((f k).1 ≤ (f (k - 1)).1) = false ∧ decide (1125899906842624 < (f k).1) = false ∧ decide ((f k).2 < 0) = false ∧ decide (1000000 < (f k).2) = false) := by
  unfold chkAt
  simp only [decide_eq_true_eq, decide_eq_false_iff_not]
  generalize (f k).1 = a
  generalize (f k).2 = r
  generalize (f (k - 1)).1 = p
  by_cases h0 : a ≤ p
  · rw [if_pos (Or.inr ⟨hk, h0⟩)]; omega
  · rw [if_neg (show ¬ ((k = 0 ∧ a ≠ 0) ∨ (0 < k ∧ a ≤ p)) by omega)]
    by_cases h1 : 1125899906842624 < a ∨ r < 0 ∨ 1000000 < r
    · rw [if_pos h1]; omega
    · rw [if_neg h1]; omega

/-- Bands lie in memory. -/
def BdIn (w : World) (p : Option Addr) (n : Nat) (f : Nat → Bd) : Prop := n = 0 ∨ ∃ b o, p = some ⟨b, o, none⟩ ∧ b < w.heap.size ∧ ∀ j, j < n → w.cell? ⟨b, o + j * 2, none⟩ = some (.int .i64 (f j).1) ∧ w.cell? ⟨b, o + j * 2 + 1, none⟩ = some (.int .i64 (f j).2)
theorem BdIn.kp {w w' : World} {p : Option Addr} {n : Nat} {f : Nat → Bd} (h : BdIn w p n f) (hb : Below w.heap.size w w') : BdIn w' p n f := by
  rcases h with h | ⟨b, o, hp, hl, hc⟩
  · exact .inl h
  · exact .inr ⟨b, o, hp, Nat.lt_of_lt_of_le hl hb.size, fun j hj => ⟨(hb.cell (p := ⟨b, o + j * 2, none⟩) hl).trans (hc j hj).1, (hb.cell (p := ⟨b, o + j * 2 + 1, none⟩) hl).trans (hc j hj).2⟩⟩
theorem BdIn.drew {w : World} {p : Option Addr} {n : Nat} {f : Nat → Bd} (h : BdIn w p n f) : BdIn w.drew p n f := h

set_option maxHeartbeats 4000000 in
set_option maxRecDepth 100000 in
theorem Check_any (p : Option Addr) (n cp : Nat) (f : Nat → Bd) (w : World) (hn : n ≤ 4611686018427387904) (hf : BdIn w p n f) :
    Calls Try.prog 25 #[.slice p n cp] w fun e w' => e = .returned (.int .i64 (chkT f n)) ∧ Below w.heap.size w w' := by
  by_cases h64 : n ≤ 64
  case neg =>
    have i1 : ¬ (n : Int) ≤ 64 := by omega
    rw [show chkT f n = 5 by unfold chkT; rw [if_pos (by omega)]]
    go_enter Try.func25, Try.ntmps25
    go_wp2
    go_ret
    exact ⟨rfl, Below.refl _ _⟩
  case pos =>
    have i1 : (n : Int) ≤ 64 := by omega
    have HE : ∀ k, k < n → chkR f k = 0 → chkAt f k ≠ 0 → chkT f n = chkAt f k := fun k hk h0 he => chkT_at h64 hk h0 he
    have HN : chkR f n = 0 → chkT f n = 0 := fun h => by unfold chkT; rw [if_neg (by omega), h]
    have HX := Lib.hid hf
    clear hf
    generalize chkT f n = E at HE HN ⊢
    replace HE := Lib.hid HE
    replace HN := Lib.hid HN
    go_enter Try.func25, Try.ntmps25
    go_wp2
    go_loopw [10] (fun iv wr => ∃ k : Nat, k ≤ n ∧ iv = .int .i64 k ∧ Hid (chkR f k = 0) ∧ Hid (Below w.heap.size w wr)) (fun iv _ => n - (RowKit.intOf iv).toNat)
    case atStart => exact ⟨0, Nat.zero_le _, rfl, Lib.hid rfl, Lib.hid (Below.refl _ _)⟩
    case round =>
      obtain ⟨k, hk, rfl, H0, HB⟩ := hrel
      by_cases hlt : k < n
      · rcases HX.out with h | ⟨b, o, rfl, hl, hc⟩
        · omega
        have hlw : b < wr.heap.size := Nat.lt_of_lt_of_le hl HB.out.size
        have kc : ∀ j, j < n → wr.cell? ⟨b, o + j * 2, none⟩ = some (.int .i64 (f j).1) ∧ wr.cell? ⟨b, o + j * 2 + 1, none⟩ = some (.int .i64 (f j).2) := fun j hj => ⟨(HB.out.cell (p := ⟨b, o + j * 2, none⟩) hl).trans (hc j hj).1, (HB.out.cell (p := ⟨b, o + j * 2 + 1, none⟩) hl).trans (hc j hj).2⟩
        have HKE := Lib.hid (HE.out k hlt H0.out)
        have HKN := Lib.hid (show chkAt f k = 0 → chkR f (k + 1) = 0 from fun h => by unfold chkR; rw [if_pos H0.out, h])
        have hba := Lib.hid (HB.out.alloc HB.out.size (.cells #[.int .i64 (f k).1, .int .i64 (f k).2] 48))
        have j0 : (0 : Int) ≤ (k : Int) := by omega
        have j1 : (k : Int) < (n : Int) := by omega
        obtain ⟨ck0, ck1⟩ := kc k hlt
        by_cases hk0 : k = 0
        case pos =>
          have hw := chk_ways0 f k hk0
          have d0 : ((k : Int) == 0) = true := by simp; omega
          have dz : decide (0 < k) = false := decide_eq_false (by omega)
          clear hc kc hk0
          generalize (f k).1 = a at *
          generalize (f k).2 = r at *
          rcases hw with ⟨e, d1⟩ | ⟨e, d1, d2⟩ | ⟨e, d1, d2, d3⟩ | ⟨e, d1, d2, d3, d4⟩ | ⟨e, d1, d2, d3, d4⟩
          all_goals
            rw [e] at HKE HKN
            clear e
            have hlq : Below wr.heap.size wr (wr.alloc (.cells #[.int .i64 a, .int .i64 r] 48)) := (Below.refl _ _).alloc (Nat.le_refl _) _
            have u0 : (wr.alloc (.cells #[.int .i64 a, .int .i64 r] 48)).cell? ⟨wr.heap.size, 0, none⟩ = some (.int .i64 a) := by rw [World.cell?_alloc_new]; rfl
            have u1 : (wr.alloc (.cells #[.int .i64 a, .int .i64 r] 48)).cell? ⟨wr.heap.size, 1, none⟩ = some (.int .i64 r) := by rw [World.cell?_alloc_new]; rfl
            go_upto_region 6 with fail
            clear ck0 ck1
            generalize (wr.alloc (.cells #[.int .i64 a, .int .i64 r] 48)) = WA at hba hlq u0 u1 ⊢
            generalize wr.heap.size = gA at u0 u1 ⊢
            clear hlq
            go_quiet (fail)
            go_wp2
            first
            | (go_ret
               have hE := HKE.out (by decide)
               subst hE
               exact ⟨rfl, ⟨hba.out.os, hba.out.tape, hba.out.output, hba.out.size, hba.out.block⟩⟩)
            | exact ⟨⟨k + 1, by omega, by go_num, Lib.hid (HKN.out rfl), Lib.hid ⟨hba.out.os, hba.out.tape, hba.out.output, hba.out.size, hba.out.block⟩⟩, by simp [RowKit.intOf]; omega⟩
        case neg =>
          have hw := chk_ways f k (by omega)
          have d0 : ((k : Int) == 0) = false := by simp; omega
          have dz : decide (0 < k) = true := decide_eq_true (by omega)
          have w1 : IntKind.i64.wrap ((k : Int) - 1) = (k : Int) - 1 := IntWalk.i64_in _ (by omega)
          have j2 : 0 ≤ (k : Int) - 1 := by omega
          have j3 : (k : Int) - 1 < (n : Int) := by omega
          have j4 : ((k : Int) - 1).toNat = k - 1 := by omega
          have cp0 := (kc (k - 1) (by omega)).1
          clear hc kc hk0
          generalize (f (k - 1)).1 = pv at *
          generalize (f k).1 = a at *
          generalize (f k).2 = r at *
          rcases hw with ⟨e, d1⟩ | ⟨e, d1, d2⟩ | ⟨e, d1, d2, d3⟩ | ⟨e, d1, d2, d3, d4⟩ | ⟨e, d1, d2, d3, d4⟩
          all_goals
            rw [e] at HKE HKN
            clear e
            have hlq : Below wr.heap.size wr (wr.alloc (.cells #[.int .i64 a, .int .i64 r] 48)) := (Below.refl _ _).alloc (Nat.le_refl _) _
            have u0 : (wr.alloc (.cells #[.int .i64 a, .int .i64 r] 48)).cell? ⟨wr.heap.size, 0, none⟩ = some (.int .i64 a) := by rw [World.cell?_alloc_new]; rfl
            have u1 : (wr.alloc (.cells #[.int .i64 a, .int .i64 r] 48)).cell? ⟨wr.heap.size, 1, none⟩ = some (.int .i64 r) := by rw [World.cell?_alloc_new]; rfl
            have cp1 := (hlq.cell (p := ⟨b, o + (k - 1) * 2, none⟩) hlw).trans cp0
            go_upto_region 6 with fail
            clear ck0 ck1 cp0
            generalize (wr.alloc (.cells #[.int .i64 a, .int .i64 r] 48)) = WA at hba hlq u0 u1 cp1 ⊢
            generalize wr.heap.size = gA at u0 u1 ⊢
            clear hlq
            go_quiet (fail)
            go_wp2
            first
            | (go_ret
               have hE := HKE.out (by decide)
               subst hE
               exact ⟨rfl, ⟨hba.out.os, hba.out.tape, hba.out.output, hba.out.size, hba.out.block⟩⟩)
            | exact ⟨⟨k + 1, by omega, by go_num, Lib.hid (HKN.out rfl), Lib.hid ⟨hba.out.os, hba.out.tape, hba.out.output, hba.out.size, hba.out.block⟩⟩, by simp [RowKit.intOf]; omega⟩
      · obtain rfl : k = n := by omega
        have hE := HN.out H0.out
        subst hE
        go_wp2
        go_ret
        exact ⟨rfl, HB.out⟩

end Go.Proofs.Ytbflgckmhhmklaa
