/-
  What is proved: the contracts of the document's own over and Sum. Conditions: right entries, right limits; the entries lie in memory as the contract says.
-/
import Derived.Test.YtlfflnfodnegnaaSkT
import Derived.BigRegion
namespace Go.Proofs.Ytlfflnfodnegnaa
open Go Go.RowKit Go.Proofs
set_option linter.unusedVariables false

theorem rMon_q (d : Int) (h : inB d = true) (w : World) (n : Nat) : Calls Try.prog 25 #[.int .i64 d] (w.drewN n) fun e w' => e = .returned (.int .i64 (mon d)) ∧ w' = w.drewN n := (rMon_any d h _).mono (fun e w' h => ⟨h.1, h.2.symm⟩)
/-- What only draws leaves. -/
def Same (w w' : World) : Prop := (∀ b : Nat, w'.heap[b]? = w.heap[b]?) ∧ Below w.heap.size w w'
theorem Same.refl (w : World) : Same w w := ⟨fun _ => rfl, Below.refl _ _⟩
theorem Same.drew {w w' : World} (h : Same w w') (n : Nat) : Same w (w'.drewN n) := ⟨h.1, below_drewN h.2 n⟩
theorem Same.cell {w w' : World} (h : Same w w') {p : Addr} {v : Value} (x : w.cell? p = some v) : w'.cell? p = some v := (World.cell?_of_block (w := w) (h.1 p.block)).trans x

set_option maxHeartbeats 4000000 in
set_option maxRecDepth 100000 in
theorem over_any (f : Nat → En) (p : Option Addr) (n c i : Nat) (D W : Int) (w : World) (h : EntsIn w p n f) (hn : n ≤ 4096) (hr : Rt f n) (hL : Lim D W) (hi : i < n) :
    Calls Try.prog 26 #[.slice p n c, .int .i64 i, .int .i64 D, .int .i64 W] w fun e w' => e = .returned (.int .i64 (overV D W f i)) ∧ Same w w' := by
  rcases h with h | ⟨b, o, rfl, hc⟩
  · omega
  obtain ⟨M, hM⟩ : ∃ M, M = mon (f i).1 := ⟨_, rfl⟩
  obtain ⟨x, hx⟩ : ∃ x, x = f i := ⟨_, rfl⟩
  obtain ⟨xi, yi, -⟩ := hc i hi
  rw [← hx] at xi yi
  have HMI := Lib.hid (fun V m => rMon_q x.1 (by rw [hx]; exact (hr.1 i hi).1) V m)
  rw [hx, ← hM, ← hx] at HMI
  obtain ⟨-, m0, m1, -, -⟩ := hr.1 i hi
  rw [← hx] at m0 m1
  have HR : Hid (overV D W f i = x.2.1 - min (max (W - aheadL D f M (i + 1)) 0) (lastL D f M (i + 1))) := Lib.hid (by unfold overV; rw [← hM, ← hx])
  have HC := Lib.hid hc
  have HRT := Lib.hid hr
  have HLB := Lib.hid (fun k (hk : k ≤ n) => lastL_bd hr hL.1 M k hk)
  have HAB := Lib.hid (fun k (hk : k ≤ n) => aheadL_bd hr hL.1 M k hk)
  obtain ⟨L1, L2, L3, L4⟩ := hL
  have hiI : (i : Int) < (n : Int) := by omega
  clear hx hc hr hM
  go_enter Try.func26, Try.ntmps26
  go_wp2
  go_loopw [11, 9, 10] (fun kv lv av wr => ∃ k : Nat, k ≤ i + 1 ∧ kv = .int .i64 k ∧ lv = .int .i64 (lastL D f M k) ∧ av = .int .i64 (aheadL D f M k) ∧ Hid (Same w wr)) (fun kv _ _ _ => i + 1 - (RowKit.intOf kv).toNat)
  case atStart => exact ⟨0, by omega, rfl, rfl, rfl, Lib.hid (Same.refl _)⟩
  case round =>
    obtain ⟨k, hk, rfl, rfl, rfl, HS⟩ := hrel
    have ui := HS.out.cell xi
    have vi := HS.out.cell yi
    have bL := HLB.out k (by omega)
    have bA := HAB.out k (by omega)
    obtain ⟨b0, b1⟩ := bL
    obtain ⟨b2, b3⟩ := bA
    by_cases hlt : k ≤ i
    · have hlI : (k : Int) ≤ (i : Int) := by omega
      have hkn : (k : Int) < (n : Int) := by omega
      have hk4 : (k : Int) < 4096 := by omega
      obtain ⟨xa, xb, -⟩ := HC.out k (by omega)
      replace xa := HS.out.cell xa
      replace xb := HS.out.cell xb
      have hin := (HRT.out.1 k (by omega)).1
      obtain ⟨-, n0, n1, -, -⟩ := HRT.out.1 k (by omega)
      have HMK := Lib.hid (fun V m => rMon_q (f k).1 hin V m)
      have hl1 : lastL D f M (k + 1) = if mon (f k).1 = M then lft D (f k) else lastL D f M k := rfl
      have ha1 : aheadL D f M (k + 1) = if mon (f k).1 = M then aheadL D f M k + lastL D f M k else aheadL D f M k := rfl
      by_cases hm : mon (f k).1 = M
      · rw [if_pos hm] at hl1 ha1
        rw [hm] at HMK
        have HL1 := Lib.hid hl1
        have HA1 := Lib.hid ha1
        have hlf : lft D (f k) = min (f k).2.1 D := rfl
        rw [hlf] at HL1
        generalize lastL D f M k = lv at *
        generalize aheadL D f M k = av at *
        generalize f k = e at *
        obtain ⟨d, mi, ni⟩ := e
        simp only at *
        clear hl1 ha1 hm hlf hin
        by_cases hmD : D < mi
        · rw [show min mi D = D by omega] at HL1
          go_wp2
          go_quiet ((go_at_call 25; first | exact Calls.quiet_of_same (HMK.out _ _) | exact Calls.quiet_of_same (HMI.out _ _)))
          obtain ⟨V, hV⟩ : ∃ V, V = wr.drewN nq := ⟨_, rfl⟩
          have HSV : Hid (Same w V) := Lib.hid (by rw [hV]; exact HS.out.drew _)
          have xbV : V.cell? ⟨b, o + k * 3 + 1, none⟩ = some (.int .i64 mi) := by rw [hV]; exact xb
          rw [← hV]
          clear hV
          go_wp2
          exact ⟨⟨k + 1, by omega, by go_num, by rw [HL1.out], by rw [HA1.out], HSV⟩, by simp [RowKit.intOf]; omega⟩
        · rw [show min mi D = mi by omega] at HL1
          go_wp2
          go_quiet ((go_at_call 25; first | exact Calls.quiet_of_same (HMK.out _ _) | exact Calls.quiet_of_same (HMI.out _ _)))
          obtain ⟨V, hV⟩ : ∃ V, V = wr.drewN nq := ⟨_, rfl⟩
          have HSV : Hid (Same w V) := Lib.hid (by rw [hV]; exact HS.out.drew _)
          have xbV : V.cell? ⟨b, o + k * 3 + 1, none⟩ = some (.int .i64 mi) := by rw [hV]; exact xb
          rw [← hV]
          clear hV
          go_wp2
          exact ⟨⟨k + 1, by omega, by go_num, by rw [HL1.out], by rw [HA1.out], HSV⟩, by simp [RowKit.intOf]; omega⟩
      · rw [if_neg hm] at hl1 ha1
        have HL1 := Lib.hid hl1
        have HA1 := Lib.hid ha1
        generalize mon (f k).1 = A at *
        have hbne : (A != M) = true := by simpa using hm
        generalize lastL D f M k = lv at *
        generalize aheadL D f M k = av at *
        generalize f k = e at *
        obtain ⟨d, mi, ni⟩ := e
        simp only at *
        clear hl1 ha1 hin
        go_wp2
        go_quiet ((go_at_call 25; first | exact Calls.quiet_of_same (HMK.out _ _) | exact Calls.quiet_of_same (HMI.out _ _)))
        go_wp2
        exact ⟨⟨k + 1, by omega, by go_num, by rw [HL1.out], by rw [HA1.out], Lib.hid (HS.out.drew _)⟩, by simp [RowKit.intOf]; omega⟩
    · obtain rfl : k = i + 1 := by omega
      have hkI : ¬ ((i + 1 : Nat) : Int) ≤ (i : Int) := by omega
      have hr := HR.out
      generalize lastL D f M (i + 1) = lv at *
      generalize aheadL D f M (i + 1) = av at *
      obtain ⟨d, mi, ni⟩ := x
      simp only at *
      have hcs : (W - av < 0) ∨ (0 ≤ W - av ∧ lv < W - av) ∨ (0 ≤ W - av ∧ W - av ≤ lv) := by omega
      rcases hcs with g1 | ⟨g1, g2⟩ | ⟨g1, g2⟩
      · have HV : Hid (overV D W f i = mi - 0) := Lib.hid (by rw [hr]; omega)
        have g3 : ¬ lv < 0 := by omega
        clear hr HR
        go_wp2
        go_ret
        exact ⟨by rw [HV.out]; first | rfl | simp, HS.out⟩
      · have HV : Hid (overV D W f i = mi - lv) := Lib.hid (by rw [hr]; omega)
        have g3 : ¬ W - av < 0 := by omega
        clear hr HR
        go_wp2
        go_ret
        exact ⟨by rw [HV.out]; rfl, HS.out⟩
      · have HV : Hid (overV D W f i = mi - (W - av)) := Lib.hid (by rw [hr]; omega)
        have g3 : ¬ W - av < 0 := by omega
        have g4 : ¬ lv < W - av := by omega
        clear hr HR
        go_wp2
        go_ret
        exact ⟨by rw [HV.out]; rfl, HS.out⟩

end Go.Proofs.Ytlfflnfodnegnaa
