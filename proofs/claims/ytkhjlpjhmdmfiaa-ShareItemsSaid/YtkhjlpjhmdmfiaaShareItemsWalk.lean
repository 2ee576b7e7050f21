/-
  What is proved: the walk of the statement ShareItems: the call returns true. Conditions: none.
-/
import Derived.Test.YtkhjlpjhmdmfiaaShareV
import Derived.Deep.SlicePairs
namespace Go.Proofs.Ytkhjlpjhmdmfiaa
open Go Go.RowKit Go.Proofs

theorem Grid.below {w w' : World} {g n m B : Nat} {code : Nat → ByteArray} {P : Nat → Nat → Int} (h : Grid w g n m code P) (hb : Below B w w') (hB : w.heap.size ≤ B) : Grid w' g n m code P := fun k hk => by
  obtain ⟨a, cap, h1, h2⟩ := h k hk
  have hl := World.block_lt_of_cell? w _ h1
  refine ⟨a, cap, (hb.cell (p := ⟨g, k, none⟩) (Nat.lt_of_lt_of_le hl hB)).trans h1, fun j hj => ?_⟩
  obtain ⟨b, ha, h3, h4⟩ := h2 j hj
  have hl3 := World.block_lt_of_cell? w _ h3
  exact ⟨b, ha, (hb.cell (p := ⟨b, j * 2, none⟩) (Nat.lt_of_lt_of_le hl3 hB)).trans h3, (hb.cell (p := ⟨b, j * 2 + 1, none⟩) (Nat.lt_of_lt_of_le hl3 hB)).trans h4⟩
/-- What a slice of items that came in gives to a walk. -/
theorem items_of {H : Type} {enc : TypeId × Value → H} {w : World} {base : Nat} {spare : Nat → Bool} {held : Bool} {fuel : Nat} {a : Option Addr} {len cap : Nat} {x : DataW H × List MemPlace} (h : DataW.trod enc Try.prog w base spare held fuel 41 [.slice a len cap] = some x) :
    ∃ (code : Nat → ByteArray) (c : Nat → Int), ItemsIn w a len code c ∧ len ≤ maxLen := by
  rcases Go.Deep.open_slice_pairs Try.underlying41 Try.underlying47 (by kernel_rfl) rfl rfl (by kernel_rfl) (by kernel_rfl) h with ⟨hcs, _⟩ | ⟨y, l, cp, m, k, V0, V1, D0, D1, P0, P1, hcs, _, hl, hm, hmm, _, hall⟩
  · simp at hcs
    obtain ⟨rfl, rfl, rfl⟩ := hcs
    exact ⟨fun _ => ⟨#[]⟩, fun _ => 0, .inl rfl, by simp [maxLen]⟩
  · simp at hcs
    obtain ⟨rfl, rfl, rfl⟩ := hcs
    have hlm : len ≤ m := by rw [hmm]; split <;> omega
    have each : ∀ i, i < len → ∃ q : ByteArray × Int, V0 i = .string q.1 ∧ V1 i = .int .i64 q.2 := fun i hi => by
      obtain ⟨_, _, t0, t1⟩ := hall i (by omega)
      obtain ⟨s, hs, _, _⟩ := DataW.trod_string (t := 9) Try.underlying9 t0
      obtain ⟨z, hz, _, _⟩ := DataW.trod_int (t := 30) Try.underlying30 t1
      exact ⟨(s, z), by simpa using hs, by simpa using hz⟩
    obtain ⟨code, c, hcc⟩ : ∃ (code : Nat → ByteArray) (c : Nat → Int), ∀ i, i < len → V0 i = .string (code i) ∧ V1 i = .int .i64 (c i) := by
      have hex : ∀ i, ∃ q : ByteArray × Int, i < len → V0 i = .string q.1 ∧ V1 i = .int .i64 q.2 := fun i => by
        by_cases hi : i < len
        · obtain ⟨q, hq⟩ := each i hi; exact ⟨q, fun _ => hq⟩
        · exact ⟨(⟨#[]⟩, 0), fun h => absurd h hi⟩
      exact ⟨fun i => (Classical.choose (hex i)).1, fun i => (Classical.choose (hex i)).2, fun i hi => Classical.choose_spec (hex i) hi⟩
    refine ⟨code, c, ?_, by omega⟩
    by_cases h0 : len = 0
    · exact .inl h0
    · obtain ⟨b, off, spot⟩ := y
      have hspot : spot = none := by simpa [Addr.add] using World.cell?_spot (hall 0 (by omega)).1
      subst hspot
      refine .inr ⟨b, off, rfl, fun j hj => ?_⟩
      obtain ⟨g0, g1, _, _⟩ := hall j (by omega)
      rw [(hcc j hj).1, Go.WideShapes.add_plain] at g0
      rw [(hcc j hj).2, Go.WideShapes.add_plain] at g1
      exact ⟨g0, g1⟩
theorem itemsE_ok {n m : Nat} {wt : Nat → Int} {c : Nat → Int} (h : itemsE n wt m c = 0) : m ≤ 64 ∧ ∀ j, j < m → splitE (c j) n wt = 0 := by
  have h0 : weighE n wt = 0 := by
    by_cases h0 : weighE n wt = 0
    · exact h0
    · simp [itemsE, h0] at h
  have h64 : ¬ 64 < m := fun h' => by simp [itemsE, h0, h'] at h
  have hfa : fitA c m = true := by
    cases hf : fitA c m
    · simp [itemsE, h0, h64, hf] at h
    · rfl
  exact ⟨by omega, fun j hj => by simp [splitE, fitA_all hfa j hj, h0]⟩

set_option maxHeartbeats 4000000 in
set_option maxRecDepth 100000 in
theorem walkShareItems (p : Option Addr) (m cp : Nat) (code : Nat → ByteArray) (c : Nat → Int) (q : Option Addr) (n cq : Nat) (zs : List Int) (w : World) (hit : ItemsIn w p m code c ∧ m ≤ maxLen) (hrow : IsRow .i64 w q n cq zs) :
    Calls Try.prog 9 #[.slice p m cp, .slice q n cq] w fun e w' => e = .returned (.bool true) ∧ Below w.heap.size w w' := by
  obtain ⟨wt, hx, hn, -⟩ := wts_of hrow
  obtain ⟨hi, hm⟩ := hit
  unfold maxLen at hn hm
  have HX := Lib.hid hx
  have HI := Lib.hid hi
  clear hx hi hrow
  by_cases hbig : 100 < n ∨ 100 < m
  · have h2 : (100 : Int) < (n : Int) ∨ (¬ (100 : Int) < (n : Int) ∧ (100 : Int) < (m : Int)) := by omega
    clear hbig
    rcases h2 with d1 | ⟨d1, d2⟩
    all_goals
      go_enter Try.func9, Try.ntmps9
      go_wp2_with fail
      refine (awake_any _).mono ?_
      rintro e w1 ⟨rfl, hb⟩
      go_wp2
      go_ret
      exact ⟨rfl, hb⟩
  have d1 : ¬ (100 : Int) < (n : Int) := by omega
  have d2 : ¬ (100 : Int) < (m : Int) := by omega
  clear hbig
  by_cases he : itemsE n wt m c = 0
  · obtain ⟨m64, hsp⟩ := itemsE_ok he
    have H1 := Lib.hid (Items_ok p q n cq m cp wt code c w HX.out HI.out he)
    have dn : ((n : Int) != (n : Int)) = false := by simp
    have dm : ((m : Int) != (m : Int)) = false := by simp
    have HSP := Lib.hid hsp
    clear hsp
    go_enter Try.func9, Try.ntmps9
    go_wp2_with fail
    refine (H1.out).mono ?_
    rintro e w1 ⟨g, F, rfl, x1, x2, x3, x4, x5⟩
    have H2 := Lib.hid (refItems_any p q n cq m cp wt code c F w1 (by omega) (by omega) (HX.out.below (Nat.le_refl _) x5) (HI.out.below (Nat.le_refl _) x5) x3)
    have HPO : Hid (∀ j, j < m → PartsOk (c j) n wt (partV n (natW wt) c F j)) := Lib.hid (fun j hj => partsOk (HSP.out j hj) (x3 j hj))
    have X4 := Lib.hid x4
    clear H1 x3 x4 HX
    go_wp2_with fail
    refine (H2.out).mono ?_
    rintro e w2 ⟨hcase, y5⟩
    rcases hcase with ⟨hne, -⟩ | ⟨-, g', rfl, y2, y3⟩
    · exact absurd he hne
    have HA := Lib.hid (X4.out.below y5 (Nat.le_refl _))
    have HB := Lib.hid y3
    have HI2 := Lib.hid ((HI.out.below (Nat.le_refl _) x5).below (Nat.le_refl _) y5)
    have hb2 : Below w.heap.size w w2 := x5.trans (y5.mono x5.size)
    clear H2 y3 X4 HI x5 y5 x1 x2 y2 he HSP
    generalize partV n (natW wt) c F = P at HA HB HPO
    go_wp2
    go_loopw [9, 10, 48] (fun _ _ kv wr => ∃ k r : Nat, k ≤ n ∧ kv = .int .i64 k ∧ wr = w2.drewN r) (fun _ _ kv _ => n - (RowKit.intOf kv).toNat)
    case atStart => exact ⟨0, 0, by omega, rfl, rfl⟩
    case round =>
      obtain ⟨k, r, hk, rfl, rfl⟩ := hrel
      by_cases hkn : k < n
      · obtain ⟨a, ca, ga, ha⟩ := HA.out k hkn
        obtain ⟨b, cb, gb, hb⟩ := HB.out k hkn
        have HAk := Lib.hid ha
        have HBk := Lib.hid hb
        have i1 : (k : Int) < (n : Int) := by omega
        clear ha hb
        go_wp2
        go_quiet (fail)
        go_wp2
        go_loopw [10, 67] (fun _ jv wr => ∃ j r : Nat, j ≤ m ∧ jv = .int .i64 j ∧ wr = w2.drewN r) (fun _ jv _ => m - (RowKit.intOf jv).toNat)
        case atStart => exact ⟨0, _, by omega, rfl, rfl⟩
        case round =>
          obtain ⟨j, r', hj, rfl, rfl⟩ := hrel
          by_cases hjm : j < m
          · obtain ⟨b1, rfl, u1, u2⟩ := HAk.out j hjm
            obtain ⟨b2, rfl, t1, t2⟩ := HBk.out j hjm
            have i2 : (j : Int) < (m : Int) := by omega
            generalize code j = u at u1 t1
            generalize P j k = v at u2 t2
            have dv : (v != v) = false := by simp
            have dv2 : (v == v) = true := by simp
            go_wp2
            go_quiet (fail)
            go_wp2
            exact ⟨⟨j + 1, _, by omega, by go_num, rfl⟩, by simp [RowKit.intOf]; omega⟩
          · go_wp2
            exact ⟨⟨k + 1, _, by omega, by go_num, rfl⟩, by simp [RowKit.intOf]; omega⟩
      · clear HB
        go_wp2
        go_loopw [11, 12, 13, 14, 92] (fun _ _ _ _ iv wr => ∃ i : Nat, i ≤ m ∧ iv = .int .i64 i ∧ Below w2.heap.size w2 wr) (fun _ _ _ _ iv _ => m - (RowKit.intOf iv).toNat)
        case atStart => exact ⟨0, by omega, rfl, below_drewN (Below.refl _ _) r⟩
        case round =>
          obtain ⟨i, him, rfl, hb⟩ := hrel
          by_cases hlt : i < m
          · rcases HI2.out with h | ⟨b, o, rfl, hc⟩
            · omega
            obtain ⟨c1, c2⟩ := hc i hlt
            have hbl : b < w2.heap.size := World.block_lt_of_cell? w2 _ c1
            have e1 := (hb.cell (p := ⟨b, o + i * 2, none⟩) hbl).trans c1
            have e2 := (hb.cell (p := ⟨b, o + i * 2 + 1, none⟩) hbl).trans c2
            have i1 : (i : Int) < (m : Int) := by omega
            have hbA := hb.alloc hb.size (.cells #[.string (code i), .int .i64 (c i)] 47)
            obtain ⟨B, hB⟩ : ∃ B, B = wr.heap.size := ⟨_, rfl⟩
            have hbox : (wr.alloc (.cells #[.string (code i), .int .i64 (c i)] 47)).cell? ⟨B, 1, none⟩ = some (.int .i64 (c i)) := by rw [hB, World.cell?_alloc_new]; rfl
            have HG := Lib.hid (HA.out.below hbA (Nat.le_refl _))
            have HPK := Lib.hid (HPO.out i hlt)
            clear c1 c2 hc hb HI2 HA
            go_wp2
            rw [← hB]
            generalize (wr.alloc (.cells #[.string (code i), .int .i64 (c i)] 47)) = W1 at hbox HG hbA ⊢
            clear hB
            go_loop [13, 14, 99] (fun sv _ kv => ∃ k : Nat, ∃ s : Int, k ≤ n ∧ kv = .int .i64 k ∧ sv = .int .i64 s ∧ Hid (s = sumI (P i) k)) (fun _ _ kv => n - (RowKit.intOf kv).toNat)
            case atStart => exact ⟨0, 0, by omega, rfl, rfl, Lib.hid rfl⟩
            case round =>
              obtain ⟨k, s, hk, rfl, rfl, HS⟩ := hrel
              by_cases hkn : k < n
              · obtain ⟨a, ca, ga, ha⟩ := HG.out k hkn
                obtain ⟨b1, rfl, u1, u2⟩ := ha i hlt
                have hr1 := HPK.out.runs k hk
                have hr2 := HPK.out.runs (k + 1) hkn
                have HS2 : Hid (s + P i k = sumI (P i) (k + 1)) := Lib.hid (by rw [sumI, HS.out])
                rw [← HS2.out] at hr2
                clear ha hr1 HS HG u1 hbox
                generalize P i k = v at u2 hr2 HS2
                have y1 : IntKind.i64.wrap (s + v) = s + v := wrap_i _ (by omega) (by omega)
                have i2 : (k : Int) < (n : Int) := by omega
                go_wp2
                go_round
                case rel => exact ⟨k + 1, s + v, by omega, by go_num, rfl, HS2⟩
                case measure => simp [RowKit.intOf]; omega
              · obtain rfl : n = k := by omega
                have hs := HPK.out.sum
                rw [← HS.out] at hs
                subst hs
                have ds : (c i != c i) = false := by simp
                clear HS HPK HG
                generalize c i = v at hbox ds
                go_wp2
                exact ⟨⟨i + 1, by omega, by go_num, hbA⟩, by simp [RowKit.intOf]; omega⟩
          · go_wp2_with fail
            refine (awake_any _).mono ?_
            rintro e w3 ⟨rfl, hb3⟩
            go_wp2
            go_ret
            have hbB := hb2.trans (hb.mono hb2.size)
            exact ⟨rfl, hbB.trans (hb3.mono hbB.size)⟩
  · obtain ⟨F, hF⟩ : ∃ F : Nat → Nat → Nat, ∀ j, Good (rsN (c j).natAbs (sumN (natW wt) n) (natW wt)) (F j) 0 n := ⟨fun j => Classical.choose (good_exists (rsN (c j).natAbs (sumN (natW wt) n) (natW wt)) n), fun j => Classical.choose_spec (good_exists (rsN (c j).natAbs (sumN (natW wt) n) (natW wt)) n)⟩
    have H1 := Lib.hid (Items_err p q n cq m cp wt code c w (by omega) (by omega) HX.out HI.out he)
    have H2 := Lib.hid (fun w1 (hb : Below w.heap.size w w1) => refItems_any p q n cq m cp wt code c F w1 (by omega) (by omega) (HX.out.below (Nat.le_refl _) hb) (HI.out.below (Nat.le_refl _) hb) (fun j _ => hF j))
    unfold RefItems at H2
    generalize itemsE n wt m c = E at H1 H2 he
    have dE : (E != E) = false := by simp
    have dE0 : (E != 0) = true := by simp [he]
    clear hF HX HI
    go_enter Try.func9, Try.ntmps9
    go_wp2_with fail
    refine (H1.out).mono ?_
    rintro e w1 ⟨rfl, hb1⟩
    have H3 := Lib.hid (H2.out w1 hb1)
    clear H1 H2
    go_wp2_with fail
    refine (H3.out).mono ?_
    rintro e w2 ⟨hcase, hb2⟩
    rcases hcase with ⟨-, rfl⟩ | ⟨h0, -⟩
    · have hbA : Below w.heap.size w w2 := hb1.trans (hb2.mono hb1.size)
      clear H3
      go_wp2
      go_loopw [9, 10, 48] (fun _ _ kv wr => kv = .int .i64 0 ∧ wr = w2) (fun _ _ _ _ => 0)
      case atStart => exact ⟨rfl, rfl⟩
      case round =>
        obtain ⟨rfl, rfl⟩ := hrel
        go_wp2_with fail
        refine (awake_any _).mono ?_
        rintro e w3 ⟨rfl, hb3⟩
        go_wp2
        go_ret
        exact ⟨rfl, hbA.trans (hb3.mono hbA.size)⟩
    · exact absurd h0 he

end Go.Proofs.Ytkhjlpjhmdmfiaa
