/-
  What is proved: the walk of the statement BeforeAll: the call returns true. Conditions: what came in is as the frame says.
-/
import Derived.Test.YtaeldoipflcknaaBfN
namespace Go.Proofs.Ytaeldoipflcknaa
open Go Go.RowKit Go.Lib Go.Proofs
open Ra (fitsB fitsB_iff)
set_option linter.unusedVariables false

set_option maxHeartbeats 8000000 in
set_option maxRecDepth 100000 in
theorem walkBeforeAll (g : Int) (p : Option Addr) (n cp : Nat) (W : Ti) (w : World) (hl : (Lit.int .i64 g).wf = true) (hW : ItArg w p n W) :
    Calls Try.prog 9 #[.int .i64 g, .slice p n cp] w fun e w' => e = .returned (.bool true) ∧ Below w.heap.size w w' := by
  obtain ⟨rfl, hm, hz, hit⟩ := hW
  unfold maxLen at hm
  clear hl
  by_cases hn : W.length ≤ 60
  case neg =>
    have i1 : (60 : Int) < (W.length : Int) := by omega
    clear hit
    go_enter Try.func9, Try.ntmps9
    go_wp2_with fail
    refine (awake_any _).mono ?_
    rintro e w6 ⟨rfl, hb6⟩
    go_wp2
    go_ret
    exact ⟨rfl, hb6⟩
  case pos =>
  have i1 : ¬ (60 : Int) < (W.length : Int) := by omega
  have HIt := Lib.hid hit
  have HTk := Lib.hid (take_any g none [] p cp W none 0 [] w (by simp) (by omega) (by simp) hz (fun k hk => absurd hk (Nat.not_lt_zero _)) (.inl ⟨rfl, rfl⟩) hit (.inl rfl))
  rw [show ([] : List Lm).length = 0 from rfl] at HTk
  clear hit
  go_enter Try.func9, Try.ntmps9
  go_wp2
  go_loopw [5, 6] (fun sv iv wr => ∃ k : Nat, ∃ y : Int, k ≤ W.length ∧ sv = .int .i64 y ∧ iv = .int .i64 k ∧ Hid (y = posI (W.take k)) ∧ 0 ≤ y ∧ y ≤ k * 1099511627776 ∧ Hid (wr = w)) (fun _ iv _ => W.length - (RowKit.intOf iv).toNat)
  case atStart => exact ⟨0, 0, Nat.zero_le _, rfl, rfl, Lib.hid rfl, Int.le_refl _, by omega, Lib.hid rfl⟩
  case round =>
    obtain ⟨k, y, hk, rfl, rfl, HY, y0, y1, HW⟩ := hrel
    obtain rfl := HW.out
    by_cases hlt : k < W.length
    · obtain ⟨b, o, rfl, hb, c0, c1⟩ := ItIn.at HIt.out hlt
      have hpa := posI_at W hlt
      have hy := HY.out
      generalize W.getD k d0 = it at c0 c1 hpa
      obtain ⟨s, c⟩ := it
      dsimp only at c0 c1 hpa
      have i2 : (k : Int) < (W.length : Int) := by omega
      by_cases hc : c ≤ 1099511627776
      · have HY2 : Hid (y + max 0 c = posI (W.take (k + 1))) := Lib.hid (by omega)
        have y2 : y + max 0 c ≤ ((k + 1 : Nat) : Int) * 1099511627776 := by omega
        have y3 : 0 ≤ y + max 0 c := by omega
        clear hpa hy HY
        go_wp2
        exact ⟨⟨k + 1, _, by omega, rfl, by go_num, HY2, y3, y2, Lib.hid trivial⟩, by simp [RowKit.intOf]; omega⟩
      · have i3 : (1099511627776 : Int) < c := by omega
        clear hpa hy HY
        go_wp2_with fail
        refine (awake_any _).mono ?_
        rintro e w6 ⟨rfl, hb6⟩
        go_wp2
        go_ret
        exact ⟨rfl, hb6⟩
    · obtain rfl : k = W.length := by omega
      have hy := HY.out
      rw [List.take_length] at hy
      have HY2 := Lib.hid hy
      clear hy HY
      go_wp2_with fail
      refine (HTk.out).mono ?_
      rintro e w7 ⟨hc7, hb7⟩
      have HB7 := Lib.hid hb7
      rcases hc7 with ⟨hE, rfl⟩ | ⟨hE, v8, b8, rfl, hO8, hM8, hb8⟩
      · have HE := Lib.hid hE
        have dE : (takeE g [] W [] != 0) = true := by simpa using hE
        clear HTk hE hb7
        generalize takeE g [] W [] = E at *
        go_wp2_with fail
        refine (awake_any _).mono ?_
        rintro e w11 ⟨rfl, hb11⟩
        have HB11 := Lib.hid (s_trans HB7.out hb11)
        clear hb11
        go_wp2
        go_ret
        exact ⟨rfl, HB11.out⟩
      · obtain ⟨f1, f2, f3, f4⟩ := takeE_ok hE
        have hgf := fitsB_iff.1 f1
        obtain ⟨s1, s2, s3⟩ := out_sum g [] [] W hgf.2
        have hat := (all_taken f4 W.length (Nat.le_refl _)).1
        rw [List.take_length] at hat
        have hlen := (out_len (g := g) (was := []) (L := []) W (0, g, [], [])).1
        change (takeF g [] [] W).2.2.2.length ≤ 0 + W.length at hlen
        obtain ⟨p8, k8, rfl, hls8⟩ := hO8.ls
        have HS := Lib.hid (bSum_any p8 k8 (takeF g [] [] W).2.2.2 w7 (by omega) hls8)
        rw [s1] at HS
        have HV : Hid (sumI (takeF g [] [] W).2.2.2 = min (max 0 g) y) := Lib.hid (by rw [hat, HY2.out])
        rw [HV.out] at HS
        clear HTk hE hb7 f1 f2 f3 f4 s1 s2 s3 hat hls8 hO8 hM8 HV
        generalize (takeF g [] [] W).2.2.2.length = m8 at *
        go_wp2_with fail
        refine (HS.out).mono ?_
        rintro e w9 ⟨rfl, hb9⟩
        have HB9 := Lib.hid (s_trans HB7.out hb9)
        clear HS hb9
        go_wp2_with fail
        refine (awake_any _).mono ?_
        rintro e w11 ⟨rfl, hb11⟩
        have HB11 := Lib.hid (s_trans HB9.out hb11)
        clear hb11
        go_wp2
        go_ret
        exact ⟨rfl, HB11.out⟩

end Go.Proofs.Ytaeldoipflcknaa
