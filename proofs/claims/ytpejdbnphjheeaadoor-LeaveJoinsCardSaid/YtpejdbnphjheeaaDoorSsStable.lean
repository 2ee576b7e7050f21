/-
  What is proved: the contracts of slices.stableCmpFunc and slices.SortStableFunc over places in their own order: they come out as a sorted arrangement, alike ones as they stood. Conditions: as each says.
-/
import Derived.Test.YtpejdbnphjheeaaDoorSsMerge
namespace Go.Proofs.YtpejdbnphjheeaaDoor.Ss
open Go Go.RowKit Go.Proofs Go.Sort

theorem dvd_step {d x a : Nat} (h1 : d ∣ x) (h2 : d ∣ a) (h : x < a) : x + d ≤ a := by
  obtain ⟨k, rfl⟩ := h1
  obtain ⟨l, rfl⟩ := h2
  have hkl : k < l := Nat.lt_of_mul_lt_mul_left h
  have := Nat.mul_le_mul_left d (show k + 1 ≤ l by omega)
  rw [Nat.mul_add, Nat.mul_one] at this
  exact this
theorem dvd_self_add {d a : Nat} (h : d ∣ a) : d ∣ a + d := Nat.dvd_add h (Nat.dvd_refl d)
theorem dvd_half {d a : Nat} (h : 2 * d ∣ a) : d ∣ a := Nat.dvd_trans ⟨2, by omega⟩ h

/-- All ranges of this length, from 0 on, are sorted arrangements of themselves. -/
def Blocks (r c : Nat → Nat) (n bs : Nat) : Prop := ∀ x, bs ∣ x → x < n → Good r c x (min (x + bs) n)
/-- Some ranges are of the double length already. -/
def Half (r c : Nat → Nat) (n bs a : Nat) : Prop := (∀ x, 2 * bs ∣ x → x < a → Good r c x (x + 2 * bs)) ∧ ∀ x, bs ∣ x → a ≤ x → x < n → Good r c x (min (x + bs) n)

theorem first_done {r c f : Nat → Nat} {n a b : Nat} (hdvd : 20 ∣ a) (hb : b = a + 20) (hdone : ∀ x, 20 ∣ x → x < a → Good r c x (x + 20)) (hg : Good r f a b) (hout : ∀ i, (i < a ∨ b ≤ i) → f i = c i) (hrest : ∀ i, a ≤ i → i < n → c i = i) :
    (∀ x, 20 ∣ x → x < b → Good r f x (x + 20)) ∧ ∀ i, b ≤ i → i < n → f i = i := by
  refine ⟨fun x h1 h2 => ?_, fun i h1 h2 => (hout i (by omega)).trans (hrest i (by omega) h2)⟩
  by_cases c1 : x < a
  · have := dvd_step h1 hdvd c1
    exact (hdone x h1 c1).far (fun i i1 i2 => hout i (by omega))
  · by_cases c2 : x = a
    · rw [c2, ← hb]; exact hg
    · have := dvd_step hdvd h1 (by omega); omega
theorem last_done {r c f : Nat → Nat} {n a : Nat} (hdvd : 20 ∣ a) (ha : n < a + 20) (hdone : ∀ x, 20 ∣ x → x < a → Good r c x (x + 20)) (han : a ≤ n) (hg : Good r f a n) (hout : ∀ i, (i < a ∨ n ≤ i) → f i = c i) : Blocks r f n 20 := fun x h1 h2 => by
  by_cases c1 : x < a
  · have := dvd_step h1 hdvd c1
    rw [show min (x + 20) n = x + 20 by omega]
    exact (hdone x h1 c1).far (fun i i1 i2 => hout i (by omega))
  · by_cases c2 : x = a
    · rw [c2, show min (a + 20) n = n by omega]; exact hg
    · have := dvd_step hdvd h1 (by omega); omega
theorem lt_ins {f c : Nat → Nat} {r : Nat → Nat} {n a b : Nat} (hb : b ≤ n) (hL : ∀ i, i < n → c i < n) (hg : Good r f a b) (hout : ∀ i, (i < a ∨ b ≤ i) → f i = c i) : ∀ i, i < n → f i < n := fun i hi => by
  by_cases h : a ≤ i ∧ i < b
  · have := hg.2.1 i h.1 h.2; omega
  · rw [hout i (by omega)]; exact hL i hi
theorem half_start {r c : Nat → Nat} {n bs : Nat} (h : Blocks r c n bs) : Half r c n bs 0 := ⟨fun x _ h => by omega, fun x h1 _ h3 => h x h1 h3⟩
theorem half_two {r c : Nat → Nat} {n bs a e : Nat} (hbs : 0 < bs) (hdvd : 2 * bs ∣ a) (h : Half r c n bs a) (hm : a + bs < e) (he : e = min (a + 2 * bs) n) : Good r c a (a + bs) ∧ Good r c (a + bs) e := by
  have h1 := h.2 a (dvd_half hdvd) (Nat.le_refl _) (by omega)
  have h2 := h.2 (a + bs) (dvd_self_add (dvd_half hdvd)) (by omega) (by omega)
  rw [show min (a + bs) n = a + bs by omega] at h1
  rw [show min (a + bs + bs) n = e by omega] at h2
  exact ⟨h1, h2⟩
theorem half_next {r c f : Nat → Nat} {n bs a b : Nat} (hdvd : 2 * bs ∣ a) (hb : b = a + 2 * bs) (h : Half r c n bs a) (hg : Good r f a b) (p : PermOn a b c f) : Half r f n bs b := by
  refine ⟨fun x h1 h2 => ?_, fun x h1 h2 h3 => (h.2 x h1 (by omega) h3).far (fun i i1 i2 => p.2.2 i (by omega))⟩
  by_cases c1 : x < a
  · have := dvd_step h1 hdvd c1
    exact (h.1 x h1 c1).far (fun i i1 i2 => p.2.2 i (by omega))
  · by_cases c2 : x = a
    · rw [c2, ← hb]; exact hg
    · have := dvd_step hdvd h1 (by omega); omega
theorem half_end {r c f : Nat → Nat} {n bs a : Nat} (hdvd : 2 * bs ∣ a) (ha : n < a + 2 * bs) (han : a ≤ n) (h : Half r c n bs a) (hg : a < n → Good r f a n) (p : ∀ i, i < a → f i = c i) : Blocks r f n (2 * bs) := fun x h1 h2 => by
  by_cases c1 : x < a
  · have := dvd_step h1 hdvd c1
    rw [show min (x + 2 * bs) n = x + 2 * bs by omega]
    exact (h.1 x h1 c1).far (fun i i1 i2 => p i (by omega))
  · by_cases c2 : x = a
    · rw [c2, show min (a + 2 * bs) n = n by omega]; exact hg (by omega)
    · have := dvd_step hdvd h1 (by omega); omega

/-- What the stable sort leaves. -/
def StablePost (g n : Nat) (K : Els) (r : Nat → Nat) (w : World) (e : Ending) (w' : World) : Prop := e = .returned (.tuple #[]) ∧ (∃ f', Row w' g n K f' ∧ Good r f' 0 n) ∧ But g w w'

set_option maxHeartbeats 8000000 in
set_option maxRecDepth 100000 in
theorem stable_any (g n cap : Nat) (K : Els) (r f : Nat → Nat) (w : World) (hn : n ≤ 1000) (hid : ∀ i, i < n → f i = i) (hR : Row w g n K f) (hS : CmpOk n K r) :
    Calls Tryd.prog 49 #[.slice (some ⟨g, 0, none⟩) n cap, .int .i64 n, (Value.func (.func 42) #[] #[])] w (StablePost g n K r w) := by
  have HSYM := Lib.hid (sym_any g n cap K r hn)
  have HINS := Lib.hid (fun a b c W => insert_any g n cap a b K r c W hn)
  obtain ⟨F, hF⟩ : ∃ F, F = (Value.func (.func 42) #[] #[]) := ⟨_, rfl⟩
  rw [← hF] at HSYM HINS ⊢
  have HR := Lib.hid hR
  have HS := Lib.hid hS
  have HID := Lib.hid hid
  clear hR hS hid hF
  go_enter Tryd.func49, Tryd.ntmps49
  go_wp2
  go_loopw [7, 8] (fun av bv wr => ∃ a : Nat, ∃ c : Nat → Nat, a ≤ n ∧ av = .int .i64 a ∧ bv = .int .i64 ((a : Int) + 20) ∧ Hid (20 ∣ a) ∧ Hid (∀ x, 20 ∣ x → x < a → Good r c x (x + 20)) ∧ Hid (∀ i, a ≤ i → i < n → c i = i) ∧ Hid (∀ i, i < n → c i < n) ∧ Hid (Row wr g n K c) ∧ But g w wr) (fun av _ _ => n - (RowKit.intOf av).toNat)
  case atStart => exact ⟨0, f, by omega, rfl, rfl, Lib.hid ⟨0, rfl⟩, Lib.hid (fun x h1 h2 => by omega), Lib.hid (fun i _ h => HID.out i h), Lib.hid (fun i h => by rw [HID.out i h]; exact h), HR, But.refl _ _⟩
  case round =>
    obtain ⟨a, c, han, rfl, rfl, HDV, HDN, HRE, HLT, HC, hb⟩ := hrel
    have HSz := Lib.hid (HS.out)
    by_cases hlt : a + 20 ≤ n
    · have hlt' : (a : Int) + 20 ≤ (n : Int) := by omega
      have eB : (a : Int) + 20 = ((a + 20 : Nat) : Int) := by omega
      have HINSa := Lib.hid (HINS.out a (a + 20) c wr (by omega) hlt HC.out HSz.out (fun i i1 i2 => HRE.out i i1 (by omega)))
      rw [← eB] at HINSa
      clear eB
      go_wp2_with fail
      refine (HINSa.out).mono ?_
      rintro e w1 ⟨rfl, ⟨f', hR1, hg1, ho1⟩, hb1⟩
      have HN := Lib.hid (first_done HDV.out rfl HDN.out hg1 ho1 HRE.out)
      have HL1 := Lib.hid (lt_ins hlt HLT.out hg1 ho1)
      have HR1 := Lib.hid hR1
      have HDV1 := Lib.hid (dvd_self_add HDV.out)
      have hbb := hb.trans hb1
      clear hR1 hg1 ho1 hb1 hb HDV HDN HRE HLT HC
      go_wp2
      exact ⟨⟨a + 20, f', by omega, by go_num, by go_num, HDV1, Lib.hid HN.out.1, Lib.hid HN.out.2, HL1, HR1, hbb⟩, by simp [RowKit.intOf]; omega⟩
    · have hlt' : ¬ (a : Int) + 20 ≤ (n : Int) := by omega
      have HINSa := Lib.hid (HINS.out a n c wr han (Nat.le_refl _) HC.out HSz.out (fun i i1 i2 => HRE.out i i1 i2))
      go_wp2_with fail
      refine (HINSa.out).mono ?_
      rintro e w1 ⟨rfl, ⟨f', hR1, hg1, ho1⟩, hb1⟩
      have HBL0 := Lib.hid (last_done HDV.out (by omega) HDN.out han hg1 ho1)
      have HL0 := Lib.hid (lt_ins (Nat.le_refl _) HLT.out hg1 ho1)
      have HR0 := Lib.hid hR1
      have hb0 := hb.trans hb1
      clear hR1 hg1 ho1 hb1 hb HDV HDN HRE HLT HC HINSa HSz
      go_wp2
      go_loopw [6, 7, 8, 9] (fun bsv _ _ _ wr => ∃ bs : Nat, ∃ c : Nat → Nat, 20 ≤ bs ∧ bs ≤ 2000 ∧ bsv = .int .i64 bs ∧ Hid (Blocks r c n bs) ∧ Hid (∀ i, i < n → c i < n) ∧ Hid (Row wr g n K c) ∧ But g w wr) (fun bsv _ _ _ _ => n - (RowKit.intOf bsv).toNat)
      case atStart => exact ⟨20, f', by omega, by omega, rfl, HBL0, HL0, HR0, hb0⟩
      case round =>
        clear HBL0 HL0 HR0 hb0
        obtain ⟨bs, c, bs1, bs2, rfl, HBL, HLT, HC, hb⟩ := hrel
        by_cases hbs : bs < n
        · have HH0 := Lib.hid (half_start HBL.out)
          go_wp2
          go_loopw [7, 8] (fun av bv wr => ∃ a : Nat, ∃ c : Nat → Nat, a ≤ n ∧ av = .int .i64 a ∧ bv = .int .i64 ((a : Int) + 2 * (bs : Int)) ∧ Hid (2 * bs ∣ a) ∧ Hid (Half r c n bs a) ∧ Hid (∀ i, i < n → c i < n) ∧ Hid (Row wr g n K c) ∧ But g w wr) (fun av _ _ => n - (RowKit.intOf av).toNat)
          case atStart => exact ⟨0, c, by omega, rfl, congrArg (Value.int .i64) (by omega), Lib.hid ⟨0, by omega⟩, HH0, HLT, HC, hb⟩
          case round =>
            clear HH0 HBL HLT HC hb
            obtain ⟨a, c, han, rfl, rfl, HDV, HHF, HLT, HC, hb⟩ := hrel
            have HSz := Lib.hid (HS.out)
            by_cases hlt : a + 2 * bs ≤ n
            · have HT2 := Lib.hid (half_two (e := a + 2 * bs) (by omega) HDV.out HHF.out (by omega) (by omega))
              have hlt' : (a : Int) + 2 * (bs : Int) ≤ (n : Int) := by omega
              have HSYa := HSYM.out n a (a + bs) (a + 2 * bs) c wr (by omega) (by omega) (by omega) hlt (HT2.out.1.two HT2.out.2) HLT.out HC.out HSz.out
              rw [show (((a + bs : Nat)) : Int) = (a : Int) + (bs : Int) by omega, show (((a + 2 * bs : Nat)) : Int) = (a : Int) + 2 * (bs : Int) by omega] at HSYa
              have HSYb := Lib.hid HSYa
              clear HSYa
              go_wp2_with fail
              refine (HSYb.out).mono ?_
              rintro e w1 ⟨rfl, ⟨f1, hR1, hp1, hso1⟩, hb1⟩
              have HG1 := Lib.hid (HT2.out.1.join HT2.out.2 (by omega) (by omega) hp1 hso1)
              have HN := Lib.hid (half_next HDV.out rfl HHF.out HG1.out hp1)
              have HL1 := Lib.hid (perm_lt hp1 hlt HLT.out)
              have HR1 := Lib.hid hR1
              have HDV1 := Lib.hid (dvd_self_add HDV.out)
              have hbb := hb.trans hb1
              clear hR1 hp1 hso1 hb1 hb HDV HHF HLT HC HSYb HT2
              go_wp2
              exact ⟨⟨a + 2 * bs, f1, by omega, congrArg (Value.int .i64) (by omega), congrArg (Value.int .i64) (by omega), HDV1, HN, HL1, HR1, hbb⟩, by simp [RowKit.intOf]; omega⟩
            · have hlt' : ¬ (a : Int) + 2 * (bs : Int) ≤ (n : Int) := by omega
              by_cases hm : a + bs < n
              · have hm' : (a : Int) + (bs : Int) < (n : Int) := by omega
                have HT2 := Lib.hid (half_two (e := n) (by omega) HDV.out HHF.out hm (by omega))
                have HSYa := HSYM.out n a (a + bs) n c wr (by omega) (by omega) hm (Nat.le_refl _) (HT2.out.1.two HT2.out.2) HLT.out HC.out HSz.out
                rw [show (((a + bs : Nat)) : Int) = (a : Int) + (bs : Int) by omega] at HSYa
                have HSYb := Lib.hid HSYa
                clear HSYa
                go_wp2_with fail
                refine (HSYb.out).mono ?_
                rintro e w1 ⟨rfl, ⟨f1, hR1, hp1, hso1⟩, hb1⟩
                have HG1 := Lib.hid (HT2.out.1.join HT2.out.2 (by omega) (by omega) hp1 hso1)
                have HN := Lib.hid (half_end HDV.out (by omega) han HHF.out (fun _ => HG1.out) (fun i hi => hp1.2.2 i (by omega)))
                have HL1 := Lib.hid (perm_lt hp1 (Nat.le_refl _) HLT.out)
                have HR1 := Lib.hid hR1
                have hbb := hb.trans hb1
                clear hR1 hp1 hso1 hb1 hb HDV HHF HLT HC HSYb HT2
                go_wp2
                exact ⟨⟨2 * bs, f1, by omega, by omega, congrArg (Value.int .i64) (by omega), HN, HL1, HR1, hbb⟩, by simp [RowKit.intOf]; omega⟩
              · have hm' : ¬ (a : Int) + (bs : Int) < (n : Int) := by omega
                have HN := Lib.hid (half_end HDV.out (by omega) han HHF.out (fun h => by
                  have := HHF.out.2 a (dvd_half HDV.out) (Nat.le_refl _) h
                  rwa [show min (a + bs) n = n by omega] at this) (fun _ _ => rfl))
                go_wp2
                exact ⟨⟨2 * bs, c, by omega, by omega, congrArg (Value.int .i64) (by omega), HN, HLT, HC, hb⟩, by simp [RowKit.intOf]; omega⟩
        · have HG : Hid (Good r c 0 n) := Lib.hid (by
            by_cases h0 : 0 < n
            · have := HBL.out 0 ⟨0, by omega⟩ h0
              rwa [show min (0 + bs) n = n by omega] at this
            · exact good_none r c 0 n (by omega))
          go_wp2
          go_end0
          exact ⟨rfl, ⟨c, HC.out, HG.out⟩, hb⟩

theorem sortStable_any (g n cap : Nat) (K : Els) (r f : Nat → Nat) (w : World) (hn : n ≤ 1000) (hid : ∀ i, i < n → f i = i) (hR : Row w g n K f) (hS : CmpOk n K r) :
    Calls Tryd.prog 41 #[.slice (some ⟨g, 0, none⟩) n cap, (Value.func (.func 42) #[] #[])] w (StablePost g n K r w) := by
  have H := Lib.hid (stable_any g n cap K r f w hn hid hR hS)
  obtain ⟨F, hF⟩ : ∃ F, F = (Value.func (.func 42) #[] #[]) := ⟨_, rfl⟩
  rw [← hF] at H ⊢
  clear hF hid hR hS
  go_enter Tryd.func41, Tryd.ntmps41
  go_wp2_with fail
  refine (H.out).mono ?_
  rintro e w1 ⟨rfl, hp, hb⟩
  have HP := Lib.hid hp
  clear hp
  go_wp2
  go_end0
  exact ⟨rfl, HP.out, hb⟩

end Go.Proofs.YtpejdbnphjheeaaDoor.Ss
