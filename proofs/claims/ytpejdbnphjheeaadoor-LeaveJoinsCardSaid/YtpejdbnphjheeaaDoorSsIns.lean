/-
  What is proved: the contract of slices.insertionSortCmpFunc over the places that share.byRests sorts: a range of places in their own order comes out as a sorted arrangement of itself. Conditions: as it says.
-/
import Derived.Test.YtpejdbnphjheeaaDoorSsA
import Derived.RegionTactic
import Derived.BigRegion
namespace Go.Proofs.YtpejdbnphjheeaaDoor.Ss
open Go Go.RowKit Go.Proofs Go.Sort

theorem cmp_neg (x y : Nat) : decide (cmpV x y < 0) = decide (x < y) := by
  unfold cmpV
  by_cases h : x < y
  · simp [h]
  · by_cases h2 : y < x <;> simp [h, h2]
theorem cmp_bd (x y : Nat) : -1 ≤ cmpV x y ∧ cmpV x y ≤ 1 := by
  unfold cmpV; split
  · omega
  · split <;> omega

theorem good_one (r f : Nat → Nat) (k : Nat) (h : f k = k) : Good r f k (k + 1) :=
  ⟨fun i j a b c => by omega, fun i a b => by rw [show i = k by omega, h]; omega, fun v a b => ⟨k, by omega, by omega, by rw [h]; omega⟩⟩
theorem good_none (r f : Nat → Nat) (a b : Nat) (h : b ≤ a) : Good r f a b :=
  ⟨fun i j a b c => by omega, fun i a b => by omega, fun v a b => by omega⟩
/-- One more place, put where it belongs. -/
theorem ins_done {r f : Nat → Nat} {a k j : Nat} (hg : Good r f a k) (hk : f k = k) (h1 : a ≤ j) (h2 : j ≤ k) (hi : ∀ t, j ≤ t → t < k → r (f t) < r k) (hlo : a < j → ¬ r (f (j - 1)) < r k) : Good r (rotF f j k (k + 1)) a (k + 1) := by
  have h1k := good_one r f k hk
  have two := hg.two h1k
  have lo : ∀ t, a ≤ t → t < j → ¬ r (f t) < r (f k) := fun t t1 t2 => by
    have hl := hlo (by omega)
    rw [hk]
    by_cases e : t = j - 1
    · rw [e]; exact hl
    · have := hg.1 t (j - 1) t1 (by omega) (by omega)
      unfold bef at this
      omega
  obtain ⟨p, s⟩ := one_down two rfl h1 h2 lo (fun t t1 t2 => by rw [hk]; exact hi t t1 t2)
  exact hg.join h1k (by omega) (by omega) p s

set_option maxHeartbeats 8000000 in
set_option maxRecDepth 100000 in
theorem insert_any (g n cap a b : Nat) (K : Els) (r f : Nat → Nat) (w : World) (hn : n ≤ 1000) (hab : a ≤ b) (hbn : b ≤ n) (hR : Row w g n K f) (hS : CmpOk n K r) (hid : ∀ i, a ≤ i → i < b → f i = i) :
    Calls Tryd.prog 52 #[.slice (some ⟨g, 0, none⟩) n cap, .int .i64 a, .int .i64 b, (Value.func (.func 42) #[] #[])] w fun e w' => e = .returned (.tuple #[]) ∧ (∃ f', Row w' g n K f' ∧ Good r f' a b ∧ ∀ i, (i < a ∨ b ≤ i) → f' i = f i) ∧ But g w w' := by
  have HR := Lib.hid hR
  have HS := Lib.hid hS
  have HID := Lib.hid hid
  clear hR hS hid
  go_enter Tryd.func52, Tryd.ntmps52
  have mixed : Tryd.prog.follows .mixedOrders = true := by kernel_rfl
  go_wp2
  go_loopw [8, 9] (fun iv _ wr => ∃ k : Nat, ∃ c : Nat → Nat, a + 1 ≤ k ∧ (k ≤ b ∨ k = a + 1) ∧ iv = .int .i64 k ∧ Hid (Row wr g n K c) ∧ Hid (Good r c a (min k b)) ∧ Hid (∀ i, (i < a ∨ min k b ≤ i) → c i = f i) ∧ But g w wr) (fun iv _ _ => n - (RowKit.intOf iv).toNat)
  case atStart => exact ⟨a + 1, f, by omega, by omega, by go_num, HR, Lib.hid (by
    by_cases h : a < b
    · rw [show min (a + 1) b = a + 1 by omega]; exact good_one r f a (HID.out a (by omega) h)
    · exact good_none r f a _ (by omega)), Lib.hid (fun _ _ => rfl), But.refl _ _⟩
  case round =>
    obtain ⟨k, c, k1, k2, rfl, HC, HG, HO, hb⟩ := hrel
    by_cases hkb : k < b
    · have HCK : Hid (c k = k) := Lib.hid ((HO.out k (by omega)).trans (HID.out k (by omega) hkb))
      have HG2 : Hid (Good r c a k) := Lib.hid (by have := HG.out; rwa [show min k b = k by omega] at this)
      clear HG
      have HO2 : Hid (∀ i, (i < a ∨ k ≤ i) → c i = f i) := Lib.hid (fun i hi => HO.out i (by omega))
      clear HO
      go_wp2
      go_loopw [9] (fun jv wx => ∃ j : Nat, a ≤ j ∧ j ≤ k ∧ jv = .int .i64 j ∧ Hid (Row wx g n K (rotF c j k (k + 1))) ∧ Hid (∀ t, j ≤ t → t < k → r (c t) < r k) ∧ But g w wx) (fun jv _ => (RowKit.intOf jv).toNat)
      case atStart => exact ⟨k, by omega, by omega, rfl, Lib.hid (by rw [rot_none c k k (k + 1) (.inl rfl) (by omega) (by omega)]; exact HC.out), Lib.hid (fun t h1 h2 => by omega), hb⟩
      case round =>
        clear hb HC
        obtain ⟨j, j1, j2, rfl, HJ, HP, hb⟩ := hrel
        by_cases hja : a < j
        · have d1 : decide ((a : Int) < (j : Int)) = true := decide_eq_true (by omega)
          have HSx := Lib.hid (HS.out)
          obtain ⟨q, rfl⟩ : ∃ q, j = q + 1 := ⟨j - 1, by omega⟩
          have ej : rotF c (q + 1) k (k + 1) (q + 1) = k := by rw [rot_lo _ _ _ _ _ (by omega) (by omega)]; rw [show q + 1 + (k - (q + 1)) = k by omega]; exact HCK.out
          have eq : rotF c (q + 1) k (k + 1) q = c q := rot_out _ _ _ _ _ (by omega) (by omega) (by omega)
          have hcq : c q < n := by have := (HG2.out.2.1 q (by omega) (by omega)).2; omega
          obtain ⟨y, hy⟩ : ∃ y, y = c q := ⟨_, rfl⟩
          rw [← hy] at hcq
          obtain ⟨cj, cj'⟩ := Row.cells HJ.out (q + 1) (by omega) k ej.symm
          obtain ⟨cq, cq'⟩ := Row.cells HJ.out q (by omega) y (hy.trans eq.symm)
          have HY := Lib.hid hy
          have HE1 := Lib.hid ej
          have HE2 := Lib.hid (eq.trans hy.symm)
          have hcb := cmp_bd (r y) (r k)
          have hcn := cmp_neg (r y) (r k)
          have i1 : (q : Int) + 1 - 1 = (q : Int) := by omega
          have i2 : (q : Int) + 1 < (n : Int) := by omega
          have i3 : (q : Int) < (n : Int) := by omega
          have i4 : ((q : Int) + 1).toNat = q + 1 := by omega
          have i5 : (0 : Int) ≤ (q : Int) + 1 := by omega
          have i6 : IntKind.i64.wrap (q : Int) = (q : Int) := IntWalk.i64_in _ (by omega)
          clear ej eq hy
          by_cases hlt : r y < r k
          · have d2 : decide (cmpV (r y) (r k) < 0) = true := by rw [hcn]; exact decide_eq_true hlt
            clear hcn
            rw [show (((q + 1 : Nat)) : Int) = (q : Int) + 1 by omega]
            rw [show (((q + 1 : Nat)) : Int) = (q : Int) + 1 by omega] at d1
            go_wp2
            go_quiet_grown (first | (go_at_call 42; refine Calls.grown_of (HSx.out _ _ _ (by omega) (by omega))))
            go_wp2
            have HJ2 : Hid (Row (grow (wr.drewN nq) osq) g n K (rotF c (q + 1) k (k + 1))) := Lib.hid (HJ.out.grown _ _)
            have hb2 : But g w (grow (wr.drewN nq) osq) := below_grown hb (Nat.le_of_lt HJ.out.1) _ _
            clear cj cq cj' cq' HJ hb HSx
            generalize grow (wr.drewN nq) osq = W at HJ2 hb2 ⊢
            obtain ⟨cj2, cj2', fj2, fj2'⟩ := HJ2.out.2 (q + 1) (by omega)
            obtain ⟨cq2, cq2', fq2, fq2'⟩ := HJ2.out.2 q (by omega)
            obtain ⟨x1, x2, x3⟩ := exch HJ2.out (q + 1) q k y (by omega) (by omega) (by omega) HE1.out.symm HE2.out.symm
            rw [HE1.out] at cj2 cj2'
            rw [HE2.out] at cq2 cq2'
            unfold putE at x2 x3
            go_region
            go_wp2
            have HJ3 : Hid (Row (putE (putE W g (q + 1) K y) g (q) K k).drew g n K (rotF c q k (k + 1))) := Lib.hid (by
              have h := HJ2.out.swap (q + 1) q
              rw [HE1.out, HE2.out, rot_down c q k (by omega)] at h
              exact h)
            refine ⟨⟨q, by omega, by omega, by simp, HJ3, Lib.hid (fun t t1 t2 => ?_), (putE_below (putE_below hb2 (Nat.le_refl _) _ _ _) (Nat.le_refl _) _ _ _).drew⟩, by simp [RowKit.intOf]⟩
            by_cases e : t = q
            · rw [e, ← HY.out]; exact hlt
            · exact HP.out t (by omega) t2
          · have d2 : decide (cmpV (r y) (r k) < 0) = false := by rw [hcn]; exact decide_eq_false hlt
            have HGD : Hid (Good r (rotF c (q + 1) k (k + 1)) a (k + 1)) := Lib.hid (ins_done HG2.out HCK.out (by omega) (by omega) HP.out (fun _ => by rw [show q + 1 - 1 = q by omega, ← HY.out]; exact hlt))
            clear hcn
            rw [show (((q + 1 : Nat)) : Int) = (q : Int) + 1 by omega]
            rw [show (((q + 1 : Nat)) : Int) = (q : Int) + 1 by omega] at d1
            go_wp2
            go_quiet_grown (first | (go_at_call 42; refine Calls.grown_of (HSx.out _ _ _ (by omega) (by omega))))
            go_wp2
            refine ⟨⟨k + 1, rotF c (q + 1) k (k + 1), by omega, by omega, by go_num, Lib.hid (HJ.out.grown _ _), Lib.hid (by rw [show min (k + 1) b = k + 1 by omega]; exact HGD.out), Lib.hid (fun i hi => ?_), below_grown hb (Nat.le_of_lt HJ.out.1) _ _⟩, by simp [RowKit.intOf]; omega⟩
            rw [rot_out _ _ _ _ _ (by omega) (by omega) (by omega)]
            exact HO2.out i (by omega)
        · have d1 : decide ((a : Int) < (j : Int)) = false := decide_eq_false (by omega)
          have HGD : Hid (Good r (rotF c j k (k + 1)) a (k + 1)) := Lib.hid (ins_done HG2.out HCK.out (by omega) (by omega) HP.out (fun h => absurd h hja))
          go_wp2
          go_quiet (fail)
          go_wp2
          refine ⟨⟨k + 1, rotF c j k (k + 1), by omega, by omega, by go_num, Lib.hid (HJ.out.drewN _), Lib.hid (by rw [show min (k + 1) b = k + 1 by omega]; exact HGD.out), Lib.hid (fun i hi => ?_), below_drewN hb _⟩, by simp [RowKit.intOf]; omega⟩
          rw [rot_out _ _ _ _ _ (by omega) (by omega) (by omega)]
          exact HO2.out i (by omega)
    · go_wp2
      go_end0
      refine ⟨rfl, ⟨c, HC.out, ?_, fun i hi => HO.out i (by omega)⟩, hb⟩
      have := HG.out
      rwa [show min k b = b by omega] at this

end Go.Proofs.YtpejdbnphjheeaaDoor.Ss
