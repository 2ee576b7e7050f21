/-
  What is proved: the contract of slices.symMergeCmpFunc over a row of places: two sorted ranges come out as one. Conditions: as it says.
-/
import Derived.Test.YtpejdbnphjheeaaDoorSsIns
import Derived.Test.YtpejdbnphjheeaaDoorSsRot
namespace Go.Proofs.YtpejdbnphjheeaaDoor.Ss
open Go Go.RowKit Go.Proofs Go.Sort

theorem results_none0 {fn : Func} (h : fn.results = #[]) (tmps : Array Value) (P : Program) (w : World) : (results fn tmps).run P w = .ok (.tuple #[]) w := by simp [results, h]

/-- What the merge leaves. -/
def SymPost (g n a b : Nat) (K : Els) (r f : Nat → Nat) (w : World) (e : Ending) (w' : World) : Prop := e = .returned (.tuple #[]) ∧ (∃ f', Row w' g n K f' ∧ PermOn a b f f' ∧ SortedOn r f' a b) ∧ But g w w'

theorem up_lo {r f : Nat → Nat} {a m b H : Nat} (h : TwoOn r f a m b) (hb : H < b) (hc : r (f a) < r (f H)) : ∀ k, m ≤ k → k < H + 1 → r (f a) < r (f k) := fun k k1 k2 => by
  by_cases e : k = H
  · rw [e]; exact hc
  · have := h.2.1 k H k1 (by omega) hb
    unfold bef at this; omega
theorem up_hi {r f : Nat → Nat} {a m b H : Nat} (h : TwoOn r f a m b) (hH : m ≤ H) (hc : ¬ r (f a) < r (f H)) : ∀ k, H ≤ k → k < b → ¬ r (f a) < r (f k) := fun k k1 k2 => by
  by_cases e : k = H
  · rw [e]; exact hc
  · have := h.2.1 H k hH (by omega) k2
    unfold bef at this; omega
theorem down_lo {r f : Nat → Nat} {a m b H : Nat} (h : TwoOn r f a m b) (hm : H < m) (hc : ¬ r (f H) < r (f m)) : ∀ k, a ≤ k → k < H + 1 → ¬ r (f k) < r (f m) := fun k k1 k2 => by
  by_cases e : k = H
  · rw [e]; exact hc
  · have := h.1 k H k1 (by omega) hm
    unfold bef at this; omega
theorem down_hi {r f : Nat → Nat} {a m b H : Nat} (h : TwoOn r f a m b) (hH : a ≤ H) (hc : r (f H) < r (f m)) : ∀ k, H ≤ k → k < m → r (f k) < r (f m) := fun k k1 k2 => by
  by_cases e : k = H
  · rw [e]; exact hc
  · have := h.1 H k hH (by omega) k2
    unfold bef at this; omega
theorem mid_lo {r f : Nat → Nat} {a m b p s0 t0 C : Nat} (h : TwoOn r f a m b) (h1 : ∀ c, s0 ≤ c → c < t0 → a ≤ c ∧ c < m ∧ m ≤ p - c ∧ p - c < b ∧ c ≤ p) (c1 : s0 ≤ C) (c2 : C < t0) (hc : ¬ r (f C) < r (f (p - C))) : ∀ c, s0 ≤ c → c < C + 1 → ¬ r (f c) < r (f (p - c)) := fun c d1 d2 => by
  by_cases e : c = C
  · rw [e]; exact hc
  · have k1 := h1 c d1 (by omega)
    have k2 := h1 C c1 c2
    have x := h.1 c C k1.1 (by omega) k2.2.1
    have y := h.2.1 (p - C) (p - c) k2.2.2.1 (by omega) k1.2.2.2.1
    unfold bef at x y; omega
theorem mid_hi {r f : Nat → Nat} {a m b p s0 t0 C : Nat} (h : TwoOn r f a m b) (h1 : ∀ c, s0 ≤ c → c < t0 → a ≤ c ∧ c < m ∧ m ≤ p - c ∧ p - c < b ∧ c ≤ p) (c1 : s0 ≤ C) (hc : r (f C) < r (f (p - C))) : ∀ c, C ≤ c → c < t0 → r (f c) < r (f (p - c)) := fun c d1 d2 => by
  by_cases e : c = C
  · rw [e]; exact hc
  · have k1 := h1 c (by omega) d2
    have k2 := h1 C c1 (by omega)
    have x := h.1 C c k2.1 (by omega) k1.2.1
    have y := h.2.1 (p - c) (p - C) k1.2.2.1 (by omega) k2.2.2.2.1
    unfold bef at x y; omega
theorem perm_lt {a b n : Nat} {f g : Nat → Nat} (p : PermOn a b f g) (hb : b ≤ n) (h : ∀ i, i < n → f i < n) : ∀ i, i < n → g i < n := fun i hi => by
  by_cases c : a ≤ i ∧ i < b
  · obtain ⟨j, j1, j2, e⟩ := p.1 i c.1 c.2
    rw [e]; exact h j (by omega)
  · rw [p.2.2 i (by omega)]; exact h i hi
theorem two_far {r G g : Nat → Nat} {a m b : Nat} (h : TwoOn r G a m b) (e : ∀ i, a ≤ i → i < b → g i = G i) (h1 : a ≤ m) (h2 : m ≤ b) : TwoOn r g a m b :=
  ⟨fun i j a1 a2 a3 => by rw [e i a1 (by omega), e j (by omega) (by omega)]; exact h.1 i j a1 a2 a3, fun i j a1 a2 a3 => by rw [e i (by omega) (by omega), e j (by omega) a3]; exact h.2.1 i j a1 a2 a3, fun i j a1 a2 a3 a4 => by rw [e i a1 (by omega), e j (by omega) a4]; exact h.2.2 i j a1 a2 a3 a4⟩

set_option maxHeartbeats 8000000 in
set_option maxRecDepth 100000 in
theorem sym_up (g n cap a m b : Nat) (K : Els) (r f : Nat → Nat) (w : World) (hn : n ≤ 1000) (hm1 : a + 1 ≤ m) (hm2 : m ≤ a + 1) (hmb : m < b) (hbn : b ≤ n) (hT : TwoOn r f a m b) (hL : ∀ i, i < n → f i < n) (hR : Row w g n K f) (hS : CmpOk n K r) :
    Calls Tryd.prog 53 #[.slice (some ⟨g, 0, none⟩) n cap, .int .i64 a, .int .i64 m, .int .i64 b, (Value.func (.func 42) #[] #[])] w (SymPost g n a b K r f w) := by
  have HR := Lib.hid hR
  have HS := Lib.hid hS
  have HT := Lib.hid hT
  have HL := Lib.hid hL
  have d0 : ((m : Int) - (a : Int) == 1) = true := by simp; omega
  clear hR hS hT hL
  go_enter Tryd.func53, Tryd.ntmps53
  have mixed : Tryd.prog.follows .mixedOrders = true := by kernel_rfl
  go_wp2
  go_loopw [10, 11, 12] (fun iv jv _ wr => ∃ p q : Nat, m ≤ p ∧ p ≤ q ∧ q ≤ b ∧ iv = .int .i64 p ∧ jv = .int .i64 q ∧ Hid (∀ k, m ≤ k → k < p → r (f a) < r (f k)) ∧ Hid (∀ k, q ≤ k → k < b → ¬ r (f a) < r (f k)) ∧ Hid (Row wr g n K f) ∧ But g w wr) (fun iv jv _ _ => (RowKit.intOf jv - RowKit.intOf iv).toNat)
  case atStart => exact ⟨m, b, by omega, by omega, by omega, rfl, rfl, Lib.hid (fun k h1 h2 => by omega), Lib.hid (fun k h1 h2 => by omega), HR, But.refl _ _⟩
  case round =>
    obtain ⟨p, q, p1, p2, p3, rfl, rfl, HLO, HHI, HRw, hb⟩ := hrel
    by_cases hpq : p < q
    · obtain ⟨H, hH⟩ : ∃ H : Nat, H = (p + q) / 2 := ⟨_, rfl⟩
      have eH : ((p : Int) + (q : Int)) / 2 = (H : Int) := by omega
      have H1 : p ≤ H := by omega
      have H2 : H < q := by omega
      have hva := HL.out a (by omega)
      obtain ⟨xa, hxa⟩ : ∃ xa, xa = f a := ⟨_, rfl⟩
      obtain ⟨ca, ca'⟩ := Row.cells HRw.out a (by omega) xa hxa
      rw [← hxa] at hva
      have HXA := Lib.hid hxa
      have hvh := HL.out H (by omega)
      obtain ⟨xh, hxh⟩ : ∃ xh, xh = f H := ⟨_, rfl⟩
      obtain ⟨ch, ch'⟩ := Row.cells HRw.out H (by omega) xh hxh
      rw [← hxh] at hvh
      have HXH := Lib.hid hxh
      have hcb := cmp_bd (r xa) (r xh)
      have hcn := cmp_neg (r xa) (r xh)
      have i1 : (H : Int) < (n : Int) := by omega
      have i2 : (a : Int) < (n : Int) := by omega
      have HSz := Lib.hid (HS.out)
      clear hH hxh hxa
      by_cases hlt : r xa < r xh
      · have d2 : decide (cmpV (r xa) (r xh) < 0) = true := by rw [hcn]; exact decide_eq_true hlt
        clear hcn
        go_wp2
        go_quiet_grown (first | (go_at_call 42; refine Calls.grown_of (HSz.out _ _ _ (by omega) (by omega))))
        go_wp2
        refine ⟨⟨H + 1, q, by omega, by omega, by omega, by go_num, rfl, Lib.hid (up_lo HT.out (by omega) (by rw [← HXA.out, ← HXH.out]; exact hlt)), HHI, Lib.hid (HRw.out.grown _ _), below_grown hb (Nat.le_of_lt HRw.out.1) _ _⟩, by simp [RowKit.intOf]; omega⟩
      · have d2 : decide (cmpV (r xa) (r xh) < 0) = false := by rw [hcn]; exact decide_eq_false hlt
        clear hcn
        go_wp2
        go_quiet_grown (first | (go_at_call 42; refine Calls.grown_of (HSz.out _ _ _ (by omega) (by omega))))
        go_wp2
        refine ⟨⟨p, H, by omega, by omega, by omega, rfl, rfl, HLO, Lib.hid (up_hi HT.out (by omega) (by rw [← HXA.out, ← HXH.out]; exact hlt)), Lib.hid (HRw.out.grown _ _), below_grown hb (Nat.le_of_lt HRw.out.1) _ _⟩, by simp [RowKit.intOf]; omega⟩
    · obtain rfl : p = q := by omega
      have HDONE := Lib.hid (one_up (i := p) HT.out (by omega) p1 (by omega) HLO.out HHI.out)
      clear HLO HHI
      go_wp2
      go_loopw [13] (fun kv wr => ∃ k : Nat, a ≤ k ∧ k + 1 ≤ p ∧ kv = .int .i64 k ∧ Hid (Row wr g n K (rotF f a m (k + 1))) ∧ But g w wr) (fun kv _ => n - (RowKit.intOf kv).toNat)
      case atStart => exact ⟨a, by omega, by omega, rfl, Lib.hid (by rw [rot_none f a m (a + 1) (.inr (by omega)) (by omega) (by omega)]; exact HRw.out), hb⟩
      case round =>
        clear HRw hb
        obtain ⟨k, k1, k2, rfl, HC, hb⟩ := hrel
        by_cases hlt : k + 1 < p
        · obtain ⟨ca, ca', fa, fa'⟩ := HC.out.2 k (by omega)
          obtain ⟨cb, cb', fb, fb'⟩ := HC.out.2 (k + 1) (by omega)
          obtain ⟨x, hx⟩ : ∃ x, x = rotF f a m (k + 1) k := ⟨_, rfl⟩
          obtain ⟨y, hy⟩ : ∃ y, y = rotF f a m (k + 1) (k + 1) := ⟨_, rfl⟩
          rw [← hx] at ca ca'
          rw [← hy] at cb cb'
          obtain ⟨x1, x2, x3⟩ := exch HC.out k (k + 1) x y (by omega) (by omega) (by omega) hx hy
          unfold putE at x2 x3
          have HX := Lib.hid hx
          have HY := Lib.hid hy
          have s1 : (k : Int) < (p : Int) - 1 := by omega
          have s2 : (k : Int) < (n : Int) := by omega
          have s3 : (k : Int) + 1 < (n : Int) := by omega
          have s4 : ((k : Int) + 1).toNat = k + 1 := by omega
          clear hx hy
          go_wp2
          go_region
          go_wp2
          have HJ3 : Hid (Row (putE (putE wr g (k) K y) g (k + 1) K x).drew g n K (rotF f a m (k + 1 + 1))) := Lib.hid (by
            have h := HC.out.swap k (k + 1)
            have e := rot_up f a k k1
            rw [show a + 1 = m by omega] at e
            rw [← HX.out, ← HY.out, e] at h
            exact h)
          exact ⟨⟨k + 1, by omega, by omega, by go_num, HJ3, (putE_below (putE_below hb (Nat.le_refl _) _ _ _) (Nat.le_refl _) _ _ _).drew⟩, by simp [RowKit.intOf]; omega⟩
        · have s1 : ¬ (k : Int) < (p : Int) - 1 := by omega
          go_wp2
          refine bodyPost_ret (results_none0 rfl _ _ _) rfl ?_
          refine ⟨rfl, ⟨_, HC.out, ?_⟩, hb⟩
          rw [show k + 1 = p by omega]
          exact HDONE.out

set_option maxHeartbeats 8000000 in
set_option maxRecDepth 100000 in
theorem sym_down (g n cap a m b : Nat) (K : Els) (r f : Nat → Nat) (w : World) (hn : n ≤ 1000) (ham : a + 1 < m) (hm1 : m + 1 ≤ b) (hm2 : b ≤ m + 1) (hbn : b ≤ n) (hT : TwoOn r f a m b) (hL : ∀ i, i < n → f i < n) (hR : Row w g n K f) (hS : CmpOk n K r) :
    Calls Tryd.prog 53 #[.slice (some ⟨g, 0, none⟩) n cap, .int .i64 a, .int .i64 m, .int .i64 b, (Value.func (.func 42) #[] #[])] w (SymPost g n a b K r f w) := by
  have HR := Lib.hid hR
  have HS := Lib.hid hS
  have HT := Lib.hid hT
  have HL := Lib.hid hL
  have d0 : ((m : Int) - (a : Int) == 1) = false := by simp; omega
  have d1 : ((b : Int) - (m : Int) == 1) = true := by simp; omega
  clear hR hS hT hL
  go_enter Tryd.func53, Tryd.ntmps53
  have mixed : Tryd.prog.follows .mixedOrders = true := by kernel_rfl
  go_wp2
  go_loopw [14, 15, 16] (fun iv jv _ wr => ∃ p q : Nat, a ≤ p ∧ p ≤ q ∧ q ≤ m ∧ iv = .int .i64 p ∧ jv = .int .i64 q ∧ Hid (∀ k, a ≤ k → k < p → ¬ r (f k) < r (f m)) ∧ Hid (∀ k, q ≤ k → k < m → r (f k) < r (f m)) ∧ Hid (Row wr g n K f) ∧ But g w wr) (fun iv jv _ _ => (RowKit.intOf jv - RowKit.intOf iv).toNat)
  case atStart => exact ⟨a, m, by omega, by omega, by omega, rfl, rfl, Lib.hid (fun k h1 h2 => by omega), Lib.hid (fun k h1 h2 => by omega), HR, But.refl _ _⟩
  case round =>
    obtain ⟨p, q, p1, p2, p3, rfl, rfl, HLO, HHI, HRw, hb⟩ := hrel
    by_cases hpq : p < q
    · obtain ⟨H, hH⟩ : ∃ H : Nat, H = (p + q) / 2 := ⟨_, rfl⟩
      have eH : ((p : Int) + (q : Int)) / 2 = (H : Int) := by omega
      have H1 : p ≤ H := by omega
      have H2 : H < q := by omega
      have hva := HL.out m (by omega)
      obtain ⟨xa, hxa⟩ : ∃ xa, xa = f m := ⟨_, rfl⟩
      obtain ⟨ca, ca'⟩ := Row.cells HRw.out m (by omega) xa hxa
      rw [← hxa] at hva
      have HXA := Lib.hid hxa
      have hvh := HL.out H (by omega)
      obtain ⟨xh, hxh⟩ : ∃ xh, xh = f H := ⟨_, rfl⟩
      obtain ⟨ch, ch'⟩ := Row.cells HRw.out H (by omega) xh hxh
      rw [← hxh] at hvh
      have HXH := Lib.hid hxh
      have hcb := cmp_bd (r xh) (r xa)
      have hcn := cmp_neg (r xh) (r xa)
      have i1 : (H : Int) < (n : Int) := by omega
      have i2 : (m : Int) < (n : Int) := by omega
      have HSz := Lib.hid (HS.out)
      clear hH hxh hxa
      by_cases hlt : r xh < r xa
      · have d2 : decide (cmpV (r xh) (r xa) < 0) = true := by rw [hcn]; exact decide_eq_true hlt
        clear hcn
        go_wp2
        go_quiet_grown (first | (go_at_call 42; refine Calls.grown_of (HSz.out _ _ _ (by omega) (by omega))))
        go_wp2
        refine ⟨⟨p, H, by omega, by omega, by omega, rfl, rfl, HLO, Lib.hid (down_hi HT.out (by omega) (by rw [← HXA.out, ← HXH.out]; exact hlt)), Lib.hid (HRw.out.grown _ _), below_grown hb (Nat.le_of_lt HRw.out.1) _ _⟩, by simp [RowKit.intOf]; omega⟩
      · have d2 : decide (cmpV (r xh) (r xa) < 0) = false := by rw [hcn]; exact decide_eq_false hlt
        clear hcn
        go_wp2
        go_quiet_grown (first | (go_at_call 42; refine Calls.grown_of (HSz.out _ _ _ (by omega) (by omega))))
        go_wp2
        refine ⟨⟨H + 1, q, by omega, by omega, by omega, by go_num, rfl, Lib.hid (down_lo HT.out (by omega) (by rw [← HXA.out, ← HXH.out]; exact hlt)), HHI, Lib.hid (HRw.out.grown _ _), below_grown hb (Nat.le_of_lt HRw.out.1) _ _⟩, by simp [RowKit.intOf]; omega⟩
    · obtain rfl : p = q := by omega
      have HDONE := Lib.hid (one_down (i := p) HT.out (by omega) p1 (by omega) HLO.out HHI.out)
      clear HLO HHI
      go_wp2
      go_loopw [17] (fun kv wr => ∃ k : Nat, p ≤ k ∧ k ≤ m ∧ kv = .int .i64 k ∧ Hid (Row wr g n K (rotF f k m b)) ∧ But g w wr) (fun kv _ => (RowKit.intOf kv).toNat)
      case atStart => exact ⟨m, by omega, by omega, rfl, Lib.hid (by rw [rot_none f m m b (.inl rfl) (by omega) (by omega)]; exact HRw.out), hb⟩
      case round =>
        clear HRw hb
        obtain ⟨k, k1, k2, rfl, HC, hb⟩ := hrel
        by_cases hlt : p < k
        · obtain ⟨q, rfl⟩ : ∃ q, k = q + 1 := ⟨k - 1, by omega⟩
          obtain ⟨ca, ca', fa, fa'⟩ := HC.out.2 (q + 1) (by omega)
          obtain ⟨cb, cb', fb, fb'⟩ := HC.out.2 q (by omega)
          obtain ⟨x, hx⟩ : ∃ x, x = rotF f (q + 1) m b (q + 1) := ⟨_, rfl⟩
          obtain ⟨y, hy⟩ : ∃ y, y = rotF f (q + 1) m b q := ⟨_, rfl⟩
          rw [← hx] at ca ca'
          rw [← hy] at cb cb'
          obtain ⟨x1, x2, x3⟩ := exch HC.out (q + 1) q x y (by omega) (by omega) (by omega) hx hy
          unfold putE at x2 x3
          have HX := Lib.hid hx
          have HY := Lib.hid hy
          have s1 : (p : Int) < (q : Int) + 1 := by omega
          have s2 : (q : Int) < (n : Int) := by omega
          have s3 : (q : Int) + 1 < (n : Int) := by omega
          have s4 : ((q : Int) + 1).toNat = q + 1 := by omega
          have s5 : (q : Int) + 1 - 1 = (q : Int) := by omega
          rw [show (((q + 1 : Nat)) : Int) = (q : Int) + 1 by omega]
          clear hx hy
          go_wp2
          go_region
          go_wp2
          have HJ3 : Hid (Row (putE (putE wr g (q + 1) K y) g (q) K x).drew g n K (rotF f q m b)) := Lib.hid (by
            have h := HC.out.swap (q + 1) q
            have e := rot_down f q m (by omega)
            rw [show m + 1 = b by omega] at e
            rw [← HX.out, ← HY.out, e] at h
            exact h)
          exact ⟨⟨q, by omega, by omega, by simp, HJ3, (putE_below (putE_below hb (Nat.le_refl _) _ _ _) (Nat.le_refl _) _ _ _).drew⟩, by simp [RowKit.intOf]⟩
        · have s1 : ¬ (p : Int) < (k : Int) := by omega
          go_wp2
          refine bodyPost_ret (results_none0 rfl _ _ _) rfl ?_
          refine ⟨rfl, ⟨_, HC.out, ?_⟩, hb⟩
          rw [show k = p by omega]
          exact HDONE.out

end Go.Proofs.YtpejdbnphjheeaaDoor.Ss
