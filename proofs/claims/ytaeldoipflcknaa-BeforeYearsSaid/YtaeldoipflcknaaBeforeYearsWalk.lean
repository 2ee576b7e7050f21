/-
  What is proved: the walk of the statement BeforeYears: the call returns true. Conditions: what came in is as the frame says.
-/
import Derived.Test.YtaeldoipflcknaaBeforeLessWalk
namespace Go.Proofs.Ytaeldoipflcknaa
open Go Go.RowKit Go.Lib Go.Proofs
open Ra (fitsB fitsB_iff)
set_option linter.unusedVariables false

/-- Numbers of 32 bits in memory. -/
def U32s (w : World) (p : Option Addr) (n : Nat) (x : Nat → Int) : Prop := n = 0 ∨ ∃ b o, p = some ⟨b, o, none⟩ ∧ b < w.heap.size ∧ ∀ j, j < n → w.cell? ⟨b, o + j, none⟩ = some (.int .u32 (x j)) ∧ 0 ≤ x j ∧ x j ≤ 4294967295
theorem u32s_of {w : World} {a : Option Addr} {len cap : Nat} {zs : List Int} (h : IsRow .u32 w a len cap zs) : ∃ x : Nat → Int, U32s w a len x ∧ len ≤ maxLen := by
  rcases h with ⟨rfl, rfl, rfl, rfl⟩ | ⟨x, rfl, hl, hm, hz, hc, hw⟩
  · exact ⟨fun _ => 0, .inl rfl, by decide⟩
  · refine ⟨fun j => zs.getD j 0, ?_, by omega⟩
    by_cases h0 : len = 0
    · exact .inl h0
    · obtain ⟨b, off, rfl, hc'⟩ := ints_at hc (by omega)
      refine .inr ⟨b, off, rfl, World.block_lt_of_cell? w _ (hc' 0 (by omega)), fun j hj => ⟨hc' j (by omega), ?_⟩⟩
      have hj : j < zs.length := by omega
      have h2 := hw (zs.getD j 0) (by rw [List.getD_eq_getElem?_getD, List.getElem?_eq_getElem hj]; exact List.getElem_mem hj)
      simp [Lit.wf, IntKind.min, IntKind.max, IntKind.signed, IntKind.bits] at h2
      simp only [List.getD_eq_getElem?_getD]
      omega
/-- What was taken so far, in a list. -/
def Wx (was : Ti) (s : Int) : Prop := (was = [] ∧ s = 0) ∨ was = [(exX, s)]
theorem Wx.at {was : Ti} {s : Int} (h : Wx was s) : atI was exX = s := by
  rcases h with ⟨rfl, rfl⟩ | rfl
  · rfl
  · show (if exX = exX then s else 0) = s; rw [if_pos rfl]
theorem Wx.len {was : Ti} {s : Int} (h : Wx was s) : was.length ≤ 100 := by
  rcases h with ⟨rfl, -⟩ | rfl
  · simp
  · simp
theorem Wx.then {was : Ti} {s c : Int} (h : Wx was s) : Wx (thenV was [(exX, c)]) (s + c) := by
  right
  show setI was exX (atI was exX + c) = _
  rw [h.at]
  rcases h with ⟨rfl, rfl⟩ | rfl
  · rfl
  · unfold setI delI
    rw [List.filter_cons_of_neg (by simp)]
    rfl
theorem year_take {g wanted Y s : Int} {was : Ti} (h : Wx was s) : takeC g was [(exX, 1000000, Y)] g [] (exX, wanted) = if Y ≠ 0 then min (max 0 (min wanted g)) (max 0 (Y - s)) else max 0 (min wanted g) := by
  rw [cap_lone g wanted s 1000000 Y was h.at]
  unfold capF
  dsimp only
  rw [if_neg (show ¬ (1000000 : Int) ≠ 1000000 by simp), Int.sub_zero]

set_option maxHeartbeats 8000000 in
set_option maxRecDepth 100000 in
theorem walkBeforeYears (p : Option Addr) (n cp : Nat) (zs : List Int) (wanted Y : Int) (w : World) (hrow : IsRow .u32 w p n cp zs) (hw : (Lit.int .u32 wanted).wf = true) (hy : (Lit.int .u32 Y).wf = true) :
    Calls Try.prog 6 #[.slice p n cp, .int .u32 wanted, .int .u32 Y] w fun e w' => e = .returned (.bool true) ∧ Below w.heap.size w w' := by
  obtain ⟨x, hx, hm⟩ := u32s_of hrow
  unfold maxLen at hm
  simp [Lit.wf, IntKind.min, IntKind.max, IntKind.signed, IntKind.bits] at hw hy
  obtain ⟨w0, w1⟩ := hw
  obtain ⟨y0, y1⟩ := hy
  have HX := Lib.hid hx
  clear hrow hx
  by_cases hn : n ≤ 60
  case neg =>
    have i1 : (60 : Int) < (n : Int) := by omega
    go_enter Try.func6, Try.ntmps6
    go_wp2_with fail
    refine (awake_any _).mono ?_
    rintro e w6 ⟨rfl, hb6⟩
    go_wp2
    go_ret
    exact ⟨rfl, hb6⟩
  case pos =>
  have i1 : ¬ (60 : Int) < (n : Int) := by omega
  go_enter Try.func6, Try.ntmps6
  go_wp2
  go_loopw [7, 8, 9, 10] (fun mv sv rv iv wr => ∃ k : Nat, ∃ s r : Int, ∃ mp : Option Nat, ∃ was : Ti, k ≤ n ∧ mv = .map mp ∧ sv = .int .i64 s ∧ rv = .int .i64 r ∧ iv = .int .i64 k ∧ Hid (SMo wr mp (vT was)) ∧ Hid (Wx was s) ∧ Hid (s = if Y ≠ 0 then min r Y else r) ∧ 0 ≤ r ∧ r ≤ k * 4294967295 ∧ Hid (Below w.heap.size w wr)) (fun _ _ _ iv _ => n - (RowKit.intOf iv).toNat)
  case atStart => exact ⟨0, 0, 0, none, [], Nat.zero_le _, rfl, rfl, rfl, rfl, Lib.hid (.inl ⟨rfl, rfl⟩), Lib.hid (.inl ⟨rfl, rfl⟩), Lib.hid (by split <;> omega), Int.le_refl _, by omega, Lib.hid (Below.refl _ _)⟩
  case round =>
    rename World => wq
    obtain ⟨k, s, r, mp, was, hk, rfl, rfl, rfl, rfl, HM, HW, HS, r0, r1, HB⟩ := hrel
    by_cases hlt : k < n
    case neg =>
      clear HM HW HS
      go_wp2_with fail
      refine (awake_any _).mono ?_
      rintro e w6 ⟨rfl, hb6⟩
      have HB6 := Lib.hid (s_trans HB.out hb6)
      clear hb6
      go_wp2
      go_ret
      exact ⟨rfl, HB6.out⟩
    case pos =>
      rcases HX.out with h | ⟨b, o, rfl, hb, hc⟩
      · omega
      obtain ⟨c0, g0, g1⟩ := hc k hlt
      replace c0 := (HB.out.cell (p := ⟨b, o + k, none⟩) hb).trans c0
      generalize x k = g at c0 g0 g1
      have i2 : (k : Int) < (n : Int) := by omega
      have s0 : 0 ≤ s ∧ s ≤ r := by have := HS.out; split at this <;> omega
      obtain ⟨s0, s1⟩ := s0
      have hgf : fitsB g = true := fitsB_iff.2 ⟨by omega, by omega⟩
      have hwf : fit0 wanted = true := fit0_iff.2 ⟨w0, by omega⟩
      have hyf : fit0 Y = true := fit0_iff.2 ⟨y0, by omega⟩
      have hyt := year_take (g := g) (wanted := wanted) (Y := Y) HW.out
      have hsf : fit0 (atI was exX) = true := by rw [HW.out.at]; exact fit0_iff.2 ⟨s0, by omega⟩
      have hcb : 0 ≤ takeC g was [(exX, 1000000, Y)] g [] (exX, wanted) ∧ takeC g was [(exX, 1000000, Y)] g [] (exX, wanted) ≤ min g wanted := by rw [hyt]; split <;> omega
      obtain ⟨e1, e2⟩ := one_take g wanted was [(exX, 1000000, Y)] hgf hwf hsf (chk_one 1000000 Y rfl hyf) (by rw [HW.out.at]; omega)
      have hnew : s + takeC g was [(exX, 1000000, Y)] g [] (exX, wanted) = if Y ≠ 0 then min (r + min g wanted) Y else r + min g wanted := by
        have := HS.out
        rw [hyt]
        split <;> rename_i hY
        · rw [if_pos hY] at this; omega
        · rw [if_neg hY] at this; omega
      obtain ⟨W1, hW1⟩ : ∃ W1, W1 = wq.alloc (.cells #[.string exX, .int .i64 wanted] 43) := ⟨_, rfl⟩
      have hk1 : Below wq.heap.size wq W1 := by rw [hW1]; exact (Below.refl _ _).alloc (Nat.le_refl _) _
      have hz1 : W1.heap.size = wq.heap.size + 1 := by rw [hW1]; simp
      obtain ⟨W2, hW2⟩ : ∃ W2, W2 = W1.alloc (.cells #[.string exX, .int .i64 1000000, .int .i64 Y] 47) := ⟨_, rfl⟩
      have hk2 : Below W1.heap.size W1 W2 := by rw [hW2]; exact (Below.refl _ _).alloc (Nat.le_refl _) _
      have hz2 : W2.heap.size = W1.heap.size + 1 := by rw [hW2]; simp
      have hit : ItLs W2 (some ⟨wq.heap.size, 0, none⟩) [(exX, wanted)] := (it_one wanted (by omega) (by rw [hW1, World.cell?_alloc_new]; rfl) (by rw [hW1, World.cell?_alloc_new]; rfl) : ItLs W1 (some ⟨wq.heap.size, 0, none⟩) [(exX, wanted)]).below hk2
      have hlm : LmLs W2 (some ⟨W1.heap.size, 0, none⟩) [(exX, 1000000, Y)] := lm_one 1000000 Y (by omega) (by rw [hW2, World.cell?_alloc_new]; rfl) (by rw [hW2, World.cell?_alloc_new]; rfl) (by rw [hW2, World.cell?_alloc_new]; rfl)
      have HT := Lib.hid (take_lim g wanted 1000000 Y wq.heap.size W1.heap.size W2 hit hlm mp was HW.out.len ((HM.out.below hk1).below hk2))
      have HK2 := Lib.hid (s_trans HB.out (s_trans hk1 hk2))
      have HE1 := Lib.hid e1
      have HE2 := Lib.hid e2
      have HN := Lib.hid hnew
      obtain ⟨C, hC⟩ : ∃ C, C = takeC g was [(exX, 1000000, Y)] g [] (exX, wanted) := ⟨_, rfl⟩
      rw [← hC] at HE2 HN hcb
      obtain ⟨cb0, cb1⟩ := hcb
      rw [hz1] at HT
      rw [hW1] at hW2
      clear hc hgf hwf hyf hyt hsf e1 e2 hnew hk1 hz1 hk2 hz2 hit hlm hC HM
      go_upto_region 8 with fail
      go_wp2_with fail
      rw [show (ByteArray.mk #[120]) = exX from rfl, ← hW2]
      clear hW2
      refine (HT.out).mono ?_
      rintro e w3 ⟨hc3, hb3⟩
      rcases hc3 with ⟨h, -⟩ | ⟨-, v, b3, rfl, hO3, hM3, -⟩
      · exact absurd HE1.out h
      rw [HE2.out] at hO3 hM3
      dsimp only at hO3 hM3
      have hW3 := HW.out.then (c := C)
      have HM3 := Lib.hid hM3
      have HW3 := Lib.hid hW3
      have hlk : (Instr.lookup 30 (.map (some b3)) (.string ⟨#[120]⟩) false).run Try.prog w3 = .ok (.int .i64 (s + C)) w3 := by
        have := hM3.look Try.underlying30 (zCt w3) x_sz
        rw [vT_lk, hW3.at] at this
        exact this
      have HB3 := Lib.hid (s_trans HK2.out hb3)
      have hb9 : b < wq.heap.size := by have := HB.out.size; omega
      have c0' := (HB3.out.cell (p := ⟨b, o + k, none⟩) hb).trans (show w.cell? ⟨b, o + k, none⟩ = some (.int .u32 g) from by rw [← c0]; exact (HB.out.cell (p := ⟨b, o + k, none⟩) hb).symm)
      have hout : sumI (if C = 0 then [] else [(exX, C)]) = C := by
        split
        · rename_i h0; rw [h0]; rfl
        · show C + 0 = C; omega
      have hpos : ∀ q ∈ (if C = 0 then ([] : Ti) else [(exX, C)]), 0 ≤ q.2 := by
        intro q hq
        split at hq
        · cases hq
        · rw [List.mem_singleton] at hq; rw [hq]; exact cb0
      have hsp := Lib.hid (sum_pos _ hpos)
      obtain ⟨p3, k3, rfl, hls3⟩ := hO3.ls
      have HL3 := Lib.hid hls3
      have HOU := Lib.hid hout
      have holen : (if C = 0 then ([] : Ti) else [(exX, C)]).length ≤ 1 := by split <;> simp
      generalize (if C = 0 then ([] : Ti) else [(exX, C)]) = O at *
      clear HT HE1 HE2 hO3 hM3 hW3 hb3 hls3 hout hpos HK2 c0
      go_wp2
      go_loopw [8, 14] (fun sv iv wr => ∃ j : Nat, ∃ z : Int, j ≤ O.length ∧ sv = .int .i64 z ∧ iv = .int .i64 j ∧ Hid (z = s + sumI (O.take j)) ∧ Hid (wr = w3)) (fun _ iv _ => O.length - (RowKit.intOf iv).toNat)
      case atStart => exact ⟨0, s, Nat.zero_le _, rfl, rfl, Lib.hid (by rw [List.take_zero]; show s = s + 0; omega), Lib.hid rfl⟩
      case round =>
        obtain ⟨j, z, hj, rfl, rfl, HZ, HWW⟩ := hrel
        obtain rfl := HWW.out
        by_cases hjl : j < O.length
        · obtain ⟨b5, o5, rfl, hb5, d0', d1'⟩ := ItIn.at HL3.out hjl
          have hsa := sum_at O hjl
          have t1 := hsp.out j
          have t2 := hsp.out (j + 1)
          have hz := HZ.out
          rw [HOU.out] at t1 t2
          generalize O.getD j d0 = it at d0' d1' hsa
          obtain ⟨q, c⟩ := it
          dsimp only at d0' d1' hsa
          have HZ2 : Hid (z + c = s + sumI (O.take (j + 1))) := Lib.hid (by omega)
          have i3 : (j : Int) < (O.length : Int) := by omega
          have z0 : 0 ≤ z + c := by omega
          have z1 : z + c ≤ 9223372036854775807 := by omega
          have z2 : 0 ≤ z := by omega
          clear hsa t1 t2 hz HZ hlk c0'
          go_wp2
          exact ⟨⟨j + 1, _, by omega, rfl, by go_num, HZ2, Lib.hid trivial⟩, by simp [RowKit.intOf]; omega⟩
        · obtain rfl : j = O.length := by omega
          have hz := HZ.out
          rw [List.take_length, HOU.out] at hz
          subst hz
          have HN2 := HN.out
          by_cases hY : Y = 0
          · subst hY
            rw [if_neg (by simp)] at HN2
            have HS2 : Hid (s + C = if (0 : Int) ≠ 0 then min (r + min g wanted) 0 else r + min g wanted) := HN
            have HE9 : Hid (r + min g wanted = s + C) := Lib.hid HN2.symm
            have r2 : 0 ≤ r + min g wanted := by omega
            have r3 : r + min g wanted ≤ ((k + 1 : Nat) : Int) * 4294967295 := by omega
            have e9 : (s + C != r + min g wanted) = false := by rw [HN2]; simp
            clear HN HZ HOU hsp HL3 HN2
            go_wp2
            exact ⟨⟨k + 1, s + C, r + min g wanted, some b3, _, by omega, rfl, rfl, rfl, by go_num, Lib.hid (.inr ⟨b3, rfl, HM3.out⟩), HW3, HS2, r2, r3, HB3⟩, by simp [RowKit.intOf]; omega⟩
          · rw [if_pos hY] at HN2
            have i6 : (0 : Int) < Y := by omega
            have HS2 := HN
            have r2 : 0 ≤ r + min g wanted := by omega
            have r3 : r + min g wanted ≤ ((k + 1 : Nat) : Int) * 4294967295 := by omega
            have e9 : (s + C != min (r + min g wanted) Y) = false := by rw [HN2]; simp
            clear HN HZ HOU hsp HL3 HN2
            go_wp2
            exact ⟨⟨k + 1, s + C, r + min g wanted, some b3, _, by omega, rfl, rfl, rfl, by go_num, Lib.hid (.inr ⟨b3, rfl, HM3.out⟩), HW3, HS2, r2, r3, HB3⟩, by simp [RowKit.intOf]; omega⟩

end Go.Proofs.Ytaeldoipflcknaa
