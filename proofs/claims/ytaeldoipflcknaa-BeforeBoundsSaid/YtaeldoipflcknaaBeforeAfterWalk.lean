/-
  What is proved: the walk of the statement BeforeAfter: the call returns true. Conditions: what came in is as the frame says.
-/
import Derived.Test.YtaeldoipflcknaaBeforeTakesWalk
namespace Go.Proofs.Ytaeldoipflcknaa
open Go Go.RowKit Go.Lib Go.Proofs
set_option linter.unusedVariables false

theorem sum_at (L : Ti) {k : Nat} (h : k < L.length) : sumI (L.take (k + 1)) = sumI (L.take k) + (L.getD k d0).2 := by
  rw [take_at L d0 h, sumI_append]
  show _ = _ + (L.getD k d0).2
  have : sumI [L.getD k d0] = (L.getD k d0).2 := by show (L.getD k d0).2 + 0 = _; omega
  rw [this]
theorem sum_pos : ∀ (L : Ti), (∀ p ∈ L, 0 ≤ p.2) → ∀ k, 0 ≤ sumI (L.take k) ∧ sumI (L.take k) ≤ sumI L
  | [], _, k => by simp [sumI]
  | p :: r, h, 0 => by
    obtain ⟨_, h2⟩ := sum_pos r (fun q hq => h q (List.mem_cons_of_mem _ hq)) 0
    have h1 := h p (List.mem_cons_self ..)
    simp only [List.take_zero] at h2
    have e0 : sumI [] = 0 := rfl
    rw [e0] at h2
    refine ⟨by rw [List.take_zero, e0]; omega, ?_⟩
    rw [List.take_zero, e0]
    show 0 ≤ p.2 + sumI r
    omega
  | p :: r, h, k + 1 => by
    obtain ⟨h2, h3⟩ := sum_pos r (fun q hq => h q (List.mem_cons_of_mem _ hq)) k
    have h1 := h p (List.mem_cons_self ..)
    show 0 ≤ p.2 + sumI (r.take k) ∧ p.2 + sumI (r.take k) ≤ p.2 + sumI r
    omega

set_option maxHeartbeats 8000000 in
set_option maxRecDepth 100000 in
theorem walkBeforeAfter (left : Int) (p : Option Addr) (n cp : Nat) (W : Ti) (w : World) (hl : (Lit.int .i64 left).wf = true) (hW : ItArg w p n W) :
    Calls Try.prog 7 #[.int .i64 left, .slice p n cp] w fun e w' => e = .returned (.bool true) ∧ Below w.heap.size w w' := by
  obtain ⟨rfl, hm, hz, hit⟩ := hW
  have hlb : -9223372036854775808 ≤ left ∧ left ≤ 9223372036854775807 := by
    simp [Lit.wf, IntKind.min, IntKind.max, IntKind.signed, IntKind.bits] at hl; omega
  obtain ⟨l0, l1⟩ := hlb
  unfold maxLen at hm
  clear hl
  by_cases hn : W.length ≤ 80
  case neg =>
    have i1 : (80 : Int) < (W.length : Int) := by omega
    clear hit
    go_enter Try.func7, Try.ntmps7
    go_wp2_with fail
    refine (awake_any _).mono ?_
    rintro e w6 ⟨rfl, hb6⟩
    go_wp2
    go_ret
    exact ⟨rfl, hb6⟩
  case pos =>
  have i1 : ¬ (80 : Int) < (W.length : Int) := by omega
  have HIt := Lib.hid hit
  have HAf := Lib.hid (after_any left p cp W w (by omega) l0 l1 hit)
  obtain ⟨fa, fb, fc, fd, fe⟩ := aft_facts W (left, []) (fun p hp => by cases hp)
  change (aftF left W).1 + sumI (aftF left W).2 = left + 0 at fa
  change (aftF left W).1 ≤ left at fb
  change min 0 left ≤ (aftF left W).1 at fc
  change ∀ p ∈ (aftF left W).2, 0 < p.2 at fd
  change (aftF left W).2.length ≤ 0 + W.length at fe
  have hsp := sum_pos (aftF left W).2 (fun q hq => by have := fd q hq; omega)
  have HR : Hid (0 < left → ∀ V, Below w.heap.size w V → Calls Try.prog 20 #[.int .i64 left, .slice p W.length cp] V (AftPost left W V)) := Lib.hid (fun h V hV => rAfter_any left p cp W V (by omega) h l1 (hit.below hV))
  have hnil : ¬ 0 < left → (aftF left W).2 = [] ∧ (aftF left W).1 = left := fun h => by
    have h9 : ∀ k, k ≤ W.length → (aftF left (W.take k)).2 = [] ∧ (aftF left (W.take k)).1 = left := by
      intro k
      induction k with
      | zero => intro _; exact ⟨rfl, rfl⟩
      | succ k ih =>
        intro hk
        obtain ⟨a, b⟩ := ih (by omega)
        rw [aft_at left hk]
        unfold aftS
        rw [b, show max 0 (min (W.getD k d0).2 left) = 0 by omega, if_pos rfl, a]
        exact ⟨rfl, by dsimp only; omega⟩
    have := h9 W.length (Nat.le_refl _)
    rwa [List.take_length] at this
  clear hit fd
  unfold AftPost at HAf HR
  generalize aftF left W = A at *
  obtain ⟨x, O⟩ := A
  dsimp only at *
  go_enter Try.func7, Try.ntmps7
  go_wp2_with fail
  refine (HAf.out).mono ?_
  rintro e w1 ⟨⟨v1, rfl, hO1⟩, hb1⟩
  obtain ⟨p1, k1, rfl, hls1⟩ := hO1.ls
  clear HAf hO1
  have HL1 := Lib.hid hls1
  have HB1 := Lib.hid hb1
  clear hls1 hb1
  by_cases hp : 0 < left
  · have HR1 := Lib.hid (HR.out hp w1 HB1.out)
    clear HR hnil
    go_wp2_with fail
    refine (HR1.out).mono ?_
    rintro e w2 ⟨⟨v2, rfl, hO2⟩, hb2⟩
    obtain ⟨p2, k2, rfl, hls2⟩ := hO2.ls
    have HL2 := Lib.hid hls2
    have HL1' := Lib.hid (HL1.out.below hb2)
    have HB2 := Lib.hid (s_trans HB1.out hb2)
    clear HR1 hO2 hls2 hb2 HL1 HB1
    have HSm := Lib.hid (same_any p1 p2 k1 k2 O O w2 (by omega) (by omega) HL1'.out HL2.out)
    rw [decide_eq_true rfl] at HSm
    have HSP := Lib.hid hsp
    clear hsp
    go_wp2
    go_loopw [10, 11] (fun sv iv wr => ∃ k : Nat, ∃ y : Int, k ≤ O.length ∧ sv = .int .i64 y ∧ iv = .int .i64 k ∧ Hid (y = x + sumI (O.take k)) ∧ Hid (wr = w2)) (fun _ iv _ => O.length - (RowKit.intOf iv).toNat)
    case atStart => exact ⟨0, x, Nat.zero_le _, rfl, rfl, Lib.hid (by rw [List.take_zero]; show x = x + 0; omega), Lib.hid rfl⟩
    case round =>
      obtain ⟨k, y, hk, rfl, rfl, HY, HW⟩ := hrel
      obtain rfl := HW.out
      by_cases hlt : k < O.length
      · obtain ⟨b, o, rfl, hb, c0, c1⟩ := ItIn.at HL1'.out hlt
        have hsa := sum_at O hlt
        have h1 := HSP.out k
        have h2 := HSP.out (k + 1)
        have hy := HY.out
        generalize O.getD k d0 = it at c0 c1 hsa
        obtain ⟨s, c⟩ := it
        dsimp only at c0 c1 hsa
        have HY2 : Hid (y + c = x + sumI (O.take (k + 1))) := Lib.hid (by omega)
        have i2 : (k : Int) < (O.length : Int) := by omega
        have b0 : -9223372036854775808 ≤ y + c := by omega
        have b1 : y + c ≤ 9223372036854775807 := by omega
        clear hsa h1 h2 hy HY
        go_wp2
        exact ⟨⟨k + 1, _, by omega, rfl, by go_num, HY2, Lib.hid trivial⟩, by simp [RowKit.intOf]; omega⟩
      · obtain rfl : k = O.length := by omega
        have hy := HY.out
        rw [List.take_length] at hy
        obtain rfl : y = left := by omega
        clear HY hy
        go_wp2_with fail
        refine (HSm.out).mono ?_
        rintro e w9 ⟨rfl, hb9⟩
        have HB9 := Lib.hid (s_trans HB2.out hb9)
        clear hb9 HSm
        go_wp2_with fail
        refine (awake_any _).mono ?_
        rintro e w11 ⟨rfl, hb11⟩
        have HB11 := Lib.hid (s_trans HB9.out hb11)
        clear hb11
        go_wp2
        go_ret
        exact ⟨rfl, HB11.out⟩
  · obtain ⟨e1, e2⟩ := hnil (by omega)
    subst e1
    subst e2
    have HSm := Lib.hid (same_any p1 none k1 0 [] [] w1 (by simp) (by simp) HL1.out (.inl rfl))
    rw [show decide (([] : Ti) = []) = true from rfl, show ([] : Ti).length = 0 from rfl] at HSm
    rw [show ([] : Ti).length = 0 from rfl]
    clear HR hnil hsp
    go_wp2
    refine wp_loop_rounds 1 ?_
    rw [rounds_succ]
    go_wp2_with fail
    refine (HSm.out).mono ?_
    rintro e w9 ⟨rfl, hb9⟩
    have HB9 := Lib.hid (s_trans HB1.out hb9)
    clear hb9 HSm
    go_wp2_with fail
    refine (awake_any _).mono ?_
    rintro e w11 ⟨rfl, hb11⟩
    have HB11 := Lib.hid (s_trans HB9.out hb11)
    clear hb11
    go_wp2
    go_ret
    exact ⟨rfl, HB11.out⟩

end Go.Proofs.Ytaeldoipflcknaa
