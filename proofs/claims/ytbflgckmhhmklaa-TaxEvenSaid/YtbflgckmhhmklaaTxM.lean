/-
  What is proved: the contract of the statements' right: where it says yes, the card is right. Conditions: none.
-/
import Derived.Test.YtbflgckmhhmklaaTxN
import Derived.Deep.DeepCutAuto
namespace Go.Proofs.Ytbflgckmhhmklaa
open Go Go.RowKit Go.Proofs
set_option linter.unusedVariables false

/-- The bands so far are right, and the last one's From. -/
def Rk (f : Nat → Bd) (k : Nat) (l : Int) : Prop := (k = 0 → l = -1) ∧ (∀ i, i < k → bdOk (f i) ∧ (f i).1 ≤ 1099511627776 ∧ 0 ≤ (f i).1) ∧ (∀ i, i + 1 < k → (f i).1 < (f (i + 1)).1) ∧ (0 < k → l = (f (k - 1)).1) ∧ -1 ≤ l
theorem Rk.nil (f : Nat → Bd) : Rk f 0 (-1) := ⟨fun _ => rfl, fun i h => by omega, fun i h => by omega, fun h => by omega, by omega⟩
theorem Rk.step {f : Nat → Bd} {k : Nat} {l : Int} (h : Rk f k l) (h1 : ¬ (f k).1 ≤ l) (h2 : ¬ 1099511627776 < (f k).1) (h3 : ¬ (f k).2 < 0) (h4 : ¬ 1000000 < (f k).2) : Rk f (k + 1) (f k).1 := by
  obtain ⟨-, k1, k2, k3, k4⟩ := h
  refine ⟨fun h => by omega, fun i hi => ?_, fun i hi => ?_, fun _ => rfl, by omega⟩
  · rcases Nat.lt_succ_iff_lt_or_eq.1 hi with h5 | rfl
    · exact k1 i h5
    · exact ⟨⟨by omega, by omega, by omega⟩, by omega, by omega⟩
  · rcases Nat.lt_succ_iff_lt_or_eq.1 hi with h5 | h5
    · exact k2 i h5
    · have := k3 (by omega)
      rw [show k - 1 = i by omega] at this
      rw [h5]; omega
theorem Rk.all {f : Nat → Bd} {n : Nat} {l al ex : Int} (h : Rk f n l) (h0 : 0 < n → (f 0).1 = 0) (hn : n ≤ 64) (a0 : 0 ≤ al) (a1 : al ≤ 1099511627776) (e0 : 0 ≤ ex) (e1 : ex ≤ 1099511627776) : Rc al ex f n := by
  obtain ⟨-, k1, k2, -, -⟩ := h
  exact ⟨hn, ⟨h0, fun i hi => (k1 i hi).1, k2⟩, fun i hi => (k1 i hi).2.1, ⟨a0, a1⟩, e0, e1⟩

theorem ways4 (a b c d : Bool) : a = false ∨ (a = true ∧ b = false) ∨ (a = true ∧ b = true ∧ c = false) ∨ (a = true ∧ b = true ∧ c = true ∧ d = false) ∨ (a = true ∧ b = true ∧ c = true ∧ d = true) := by cases a <;> cases b <;> cases c <;> cases d <;> simp
/-- What right gives: a yes or a no, and behind a yes the card is right. -/
def RPost (al ex : Int) (f : Nat → Bd) (n : Nat) (w : World) (e : Ending) (w' : World) : Prop := ∃ b : Bool, e = .returned (.bool b) ∧ (b = true → Rc al ex f n) ∧ Below w.heap.size w w'
theorem RPost.no {al ex : Int} {f : Nat → Bd} {n : Nat} {w w' : World} {e : Ending} (he : e = .returned (.bool false)) (h : Below w.heap.size w w') : RPost al ex f n w e w' := ⟨false, he, fun h => (by cases h), h⟩
theorem RPost.yes {al ex : Int} {f : Nat → Bd} {n : Nat} {w w' : World} {e : Ending} (hc : Rc al ex f n) (he : e = .returned (.bool true)) (h : Below w.heap.size w w') : RPost al ex f n w e w' := ⟨true, he, fun _ => hc, h⟩

set_option maxHeartbeats 8000000 in
set_option maxRecDepth 100000 in
theorem right_any (al ex : Int) (p : Option Addr) (n cp : Nat) (f : Nat → Bd) (w : World) (hn : n ≤ maxLen) (hf : BdIn w p n f) :
    Calls Try.prog 8 #[.agg #[.int .i64 al, .int .i64 ex, .slice p n cp]] w fun e w' => RPost al ex f n w e w' := by
  have hk0 : Below w.heap.size w (w.alloc (.cells #[.int .i64 al, .int .i64 ex, .slice p n cp] 25)) := (Below.refl _ _).alloc (Nat.le_refl _) _
  have hcd := Cd.new w al ex p n cp 25
  have hf0 := hf.kp hk0
  unfold maxLen at hn
  clear hf
  go_enter Try.func8, Try.ntmps8
  go_upto_region 1 with fail
  generalize (w.alloc (.cells #[.int .i64 al, .int .i64 ex, .slice p n cp] 25)) = W0 at hk0 hcd hf0 ⊢
  have HC := Lib.hid hcd
  have HX := Lib.hid hf0
  obtain ⟨s0, s1, s2⟩ := hcd
  clear hf0
  go_wp2
  clear s0 s1 s2
  go_loopw [3, 9] (fun lv iv wr => ∃ (k : Nat) (l : Int), k ≤ n ∧ lv = .int .i64 l ∧ iv = .int .i64 k ∧ Hid (Rk f k l) ∧ Hid (Below W0.heap.size W0 wr)) (fun _ iv _ => n - (RowKit.intOf iv).toNat)
  case atStart => exact ⟨0, -1, Nat.zero_le _, rfl, rfl, Lib.hid (Rk.nil f), Lib.hid (Below.refl _ _)⟩
  case round =>
    obtain ⟨k, l, hk, rfl, rfl, HR, HB⟩ := hrel
    by_cases hlt : k < n
    · have hfr := HX.out.kp HB.out
      rcases hfr with h | ⟨b, o, rfl, hl, hc⟩
      · omega
      obtain ⟨ck0, ck1⟩ := hc k hlt
      have hba := Lib.hid (HB.out.alloc HB.out.size (.cells #[.int .i64 (f k).1, .int .i64 (f k).2] 48))
      have HS := Lib.hid (HR.out.step)
      have j0 : (0 : Int) ≤ (k : Int) := by omega
      have j1 : (k : Int) < (n : Int) := by omega
      clear hc
      generalize (f k).1 = a at *
      generalize (f k).2 = r at *
      have u0 : (wr.alloc (.cells #[.int .i64 a, .int .i64 r] 48)).cell? ⟨wr.heap.size, 0, none⟩ = some (.int .i64 a) := by rw [World.cell?_alloc_new]; rfl
      have u1 : (wr.alloc (.cells #[.int .i64 a, .int .i64 r] 48)).cell? ⟨wr.heap.size, 1, none⟩ = some (.int .i64 r) := by rw [World.cell?_alloc_new]; rfl
      go_upto_region 5 with fail
      clear ck0 ck1
      generalize (wr.alloc (.cells #[.int .i64 a, .int .i64 r] 48)) = WA at hba u0 u1 ⊢
      generalize wr.heap.size = gA at u0 u1 ⊢
      have HE := Lib.hid (show Below w.heap.size w WA from hk0.trans (hba.out.mono hk0.size))
      by_cases h1 : a ≤ l
      · have d1 : decide (a ≤ l) = true := decide_eq_true h1
        go_wp2
        go_ret
        exact RPost.no rfl HE.out
      have d1 : decide (a ≤ l) = false := decide_eq_false h1
      by_cases h2 : 1099511627776 < a
      · have d2 : decide (1099511627776 < a) = true := decide_eq_true h2
        go_wp2
        go_ret
        exact RPost.no rfl HE.out
      have d2 : decide (1099511627776 < a) = false := decide_eq_false h2
      by_cases h3 : r < 0
      · have d3 : decide (r < 0) = true := decide_eq_true h3
        go_wp2
        go_ret
        exact RPost.no rfl HE.out
      have d3 : decide (r < 0) = false := decide_eq_false h3
      by_cases h4 : 1000000 < r
      · have d4 : decide (1000000 < r) = true := decide_eq_true h4
        go_wp2
        go_ret
        exact RPost.no rfl HE.out
      have d4 : decide (1000000 < r) = false := decide_eq_false h4
      have HS9 := Lib.hid (HS.out h1 h2 h3 h4)
      go_wp2
      exact ⟨⟨k + 1, a, by omega, rfl, by go_num, HS9, hba⟩, by simp [RowKit.intOf]; omega⟩
    · obtain rfl : n = k := by omega
      obtain ⟨s0, s1, s2⟩ := HC.out.kp HB.out
      have HE := Lib.hid (show Below w.heap.size w wr from hk0.trans (HB.out.mono hk0.size))
      have h64 : n ≤ 64 ∨ ¬ n ≤ 64 := by omega
      by_cases hz : n = 0
      · have d0 : ((n : Int) == 0) = true := by simp; omega
        have i1 : (n : Int) ≤ 64 := by omega
        have h00 : 0 < n → (f 0).1 = 0 := fun h => by omega
        rcases ways4 (decide (0 ≤ al)) (decide (al ≤ 1099511627776)) (decide (0 ≤ ex)) (decide (ex ≤ 1099511627776)) with d1 | ⟨d1, d2⟩ | ⟨d1, d2, d3⟩ | ⟨d1, d2, d3, d4⟩ | ⟨d1, d2, d3, d4⟩
        all_goals
          go_wp2
          go_ret
          first
          | exact RPost.no rfl HE.out
          | exact RPost.yes (HR.out.all h00 (by omega) (of_decide_eq_true d1) (of_decide_eq_true d2) (of_decide_eq_true d3) (of_decide_eq_true d4)) rfl HE.out
      · have d0 : ((n : Int) == 0) = false := by simp; omega
        have hfr := HX.out.kp HB.out
        rcases hfr with h | ⟨b, o, rfl, hl, hc⟩
        · omega
        obtain ⟨ck0, -⟩ := hc 0 (by omega)
        rw [Nat.zero_mul, Nat.add_zero] at ck0
        have j0 : (0 : Int) < (n : Int) := by omega
        by_cases hq : (f 0).1 = 0
        case neg =>
          have dq : ((f 0).1 == 0) = false := by simpa using hq
          clear hc
          generalize (f 0).1 = a at *
          go_wp2
          go_ret
          exact RPost.no rfl HE.out
        case pos =>
          have dq : ((f 0).1 == 0) = true := by simpa using hq
          have h00 : 0 < n → (f 0).1 = 0 := fun h => hq
          rw [hq] at ck0 dq
          clear hc
          by_cases hs : n ≤ 64
          case neg =>
            have i1 : ¬ (n : Int) ≤ 64 := by omega
            go_wp2
            go_ret
            exact RPost.no rfl HE.out
          case pos =>
            have i1 : (n : Int) ≤ 64 := by omega
            rcases ways4 (decide (0 ≤ al)) (decide (al ≤ 1099511627776)) (decide (0 ≤ ex)) (decide (ex ≤ 1099511627776)) with d1 | ⟨d1, d2⟩ | ⟨d1, d2, d3⟩ | ⟨d1, d2, d3, d4⟩ | ⟨d1, d2, d3, d4⟩
            all_goals
              go_wp2
              go_ret
              first
              | exact RPost.no rfl HE.out
              | exact RPost.yes (HR.out.all h00 (by omega) (of_decide_eq_true d1) (of_decide_eq_true d2) (of_decide_eq_true d3) (of_decide_eq_true d4)) rfl HE.out

end Go.Proofs.Ytbflgckmhhmklaa
