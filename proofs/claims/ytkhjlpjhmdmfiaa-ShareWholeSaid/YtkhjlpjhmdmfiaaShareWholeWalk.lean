/-
  What is proved: the walk of the statement ShareWhole: the call returns true. Conditions: none.
-/
import Derived.Test.YtkhjlpjhmdmfiaaShareN
import Derived.Test.YtkhjlpjhmdmfiaaShareH
namespace Go.Proofs.Ytkhjlpjhmdmfiaa
open Go Go.RowKit Go.Proofs

theorem infoU16 : (Try.prog.info? 25).map (fun i => (i.zero, i.size, i.bytes)) = some (some (.int .u16 0), 1, 2) := by kernel_rfl
theorem halfN_le {a b c : Nat} (h : b ≤ c) : halfN a b c ≤ a + 1 := by
  have := part_le a b c h
  unfold halfN
  split <;> omega
theorem upV_bound {t a f : Int} (h : fitB t = true) (h2 : a ≤ f) : -1125899906842625 ≤ upV t a f ∧ upV t a f ≤ 1125899906842625 := by
  have ht : -1125899906842624 ≤ t ∧ t ≤ 1125899906842624 := by simpa [fitB] using h
  have hh := halfN_le (a := t.natAbs) (b := a.toNat) (c := f.toNat) (by omega)
  unfold upV
  rcases sg_cases t with ⟨h1, h2, h3⟩ | ⟨h1, h2, h3⟩ <;> rw [h2] <;> omega
theorem upV_none (t f : Int) (hf : 0 < f) : upV t 0 f = 0 := by
  unfold upV halfN
  have : ¬ f.toNat ≤ 0 := by omega
  simp [this]
theorem upV_all (t f : Int) (hf : 0 < f) : upV t f f = t := by
  unfold upV halfN
  rw [Nat.mul_mod_left, if_neg (by omega), Nat.mul_div_cancel _ (by omega)]
  rcases sg_cases t with ⟨h1, h2, h3⟩ | ⟨h1, h2, h3⟩ <;> rw [h2] <;> omega
theorem whole_of {t f : Int} (h : fitB t = true) (hf : 0 < f) (hf2 : f ≤ 1125899906842624) : wholeE t f = 0 := by
  unfold wholeE
  rw [if_pos h, if_neg (by omega), if_pos (by simp [inB]; omega)]
theorem bet_of {t a b f : Int} (h : fitB t = true) (h0 : 0 ≤ a) (hab : a ≤ b) (hb : b ≤ f) (hf : 0 < f) (hf2 : f ≤ 1125899906842624) : betE t a b f = 0 ∧ betR t a b f = upV t b f - upV t a f := by
  have he : betE t a b f = 0 := by
    unfold betE
    rw [if_pos (whole_of h hf hf2), if_pos ⟨by simp [inB]; omega, by simp [inB]; omega⟩, if_neg (by omega)]
  exact ⟨he, by unfold betR; rw [if_pos he]⟩
theorem up_of {t a f : Int} (h : fitB t = true) (h0 : 0 ≤ a) (ha : a ≤ f) (hf : 0 < f) (hf2 : f ≤ 1125899906842624) : upE t a f = 0 ∧ upR t a f = upV t a f := by
  have he : upE t a f = 0 := by
    unfold upE
    rw [if_pos (whole_of h hf hf2), if_pos (by simp [inB]; omega)]
  exact ⟨he, by unfold upR; rw [if_pos he]⟩
theorem sumI_mono {x : Nat → Int} {n m : Nat} (h : n ≤ m) (hx : ∀ j, j < m → 0 ≤ x j) : sumI x n ≤ sumI x m := by
  induction m with
  | zero => rw [show n = 0 by omega]; exact Int.le_refl _
  | succ m ih =>
    by_cases e : n = m + 1
    · rw [e]; exact Int.le_refl _
    · rw [sumI]; have := ih (by omega) (fun j hj => hx j (by omega)); have := hx m (by omega); omega
theorem sumI_bd {x : Nat → Int} {b : Int} : ∀ n : Nat, (∀ j, j < n → 0 ≤ x j ∧ x j ≤ b) → 0 ≤ sumI x n ∧ sumI x n ≤ (n : Int) * b
  | 0, _ => by simp [sumI]
  | n + 1, h => by
    have h1 := sumI_bd n (fun j hj => h j (by omega))
    have h2 := h n (by omega)
    have h3 : ((n + 1 : Nat) : Int) * b = (n : Int) * b + b := by rw [Int.natCast_add, Int.add_mul]; omega
    rw [sumI, h3]; omega

set_option maxHeartbeats 2000000 in
set_option maxRecDepth 100000 in
theorem walkShareWhole (t : Int) (p : Option Addr) (n cp : Nat) (zs : List Int) (w : World) (_ : (Lit.int .i64 t).wf = true) (hrow : IsRow .u16 w p n cp zs) : Calls Try.prog 8 #[.int .i64 t, .slice p n cp] w fun e w' => e = .returned (.bool true) ∧ Below w.heap.size w w' := by
  have HROW := Lib.hid hrow
  obtain ⟨x, hx, hm, hw⟩ := wtsK_of hrow
  unfold maxLen at hm
  have hzx : ∀ j, j < n → x j = zs.getD j 0 := fun j hj => by
    rcases hrow with ⟨_, rfl, _, _⟩ | ⟨a, rfl, hl, hm, hz, hc, -⟩
    · omega
    · rcases hx with h | ⟨b, o, hp, hcx⟩
      · omega
      · obtain rfl : a = ⟨b, o, none⟩ := Option.some.inj hp
        have h1 := hcx j hj
        have h2 := hc j (by omega)
        rw [show (⟨b, o, none⟩ : Addr).add j = ⟨b, o + j, none⟩ by simp [Addr.add], h1] at h2
        simpa using h2
  have HX := Lib.hid hx
  have H16 : Hid (∀ j, j < n → 0 ≤ x j ∧ x j ≤ 65535) := Lib.hid (fun j hj => Go.bounds_u16 (hw j hj))
  clear hx hw hrow
  by_cases hbad : 1125899906842624 < t ∨ t < -1125899906842624 ∨ 60 < n
  · have h3 : decide (1125899906842624 < t) = true ∨ (decide (1125899906842624 < t) = false ∧ decide (t < -1125899906842624) = true) ∨ (decide (1125899906842624 < t) = false ∧ decide (t < -1125899906842624) = false ∧ (60 : Int) < (n : Int)) := by
      by_cases h1 : 1125899906842624 < t
      · exact .inl (by simpa using h1)
      · by_cases h2 : t < -1125899906842624
        · exact .inr (.inl ⟨by simpa using h1, by simpa using h2⟩)
        · exact .inr (.inr ⟨by simpa using h1, by simpa using h2, by omega⟩)
    clear hbad
    rcases h3 with g1 | ⟨g1, g2⟩ | ⟨g1, g2, g3⟩
    all_goals
      go_enter Try.func8, Try.ntmps8
      go_wp2_with fail
      refine (awake_any _).mono ?_
      rintro e w1 ⟨rfl, hb⟩
      go_wp2
      go_ret
      exact ⟨rfl, hb⟩
  have g1 : decide (1125899906842624 < t) = false := by simp; omega
  have g2 : decide (t < -1125899906842624) = false := by simp; omega
  have g3 : ¬ (60 : Int) < (n : Int) := by omega
  have hfit : fitB t = true := by simp [fitB]; omega
  clear hbad
  go_enter Try.func8, Try.ntmps8
  go_wp2
  go_loop [5, 9, 32] (fun sv _ kv => ∃ k : Nat, ∃ s : Int, k ≤ n ∧ kv = .int .i64 k ∧ sv = .int .i64 s ∧ Hid (s = 1 + sumI x k)) (fun _ _ kv => n - (RowKit.intOf kv).toNat)
  case atStart => exact ⟨0, 1, by omega, rfl, rfl, Lib.hid rfl⟩
  case round =>
    obtain ⟨k, s, hk, rfl, rfl, HS⟩ := hrel
    by_cases hlt : k < n
    · rcases HX.out with h | ⟨b, o, rfl, hc⟩
      · omega
      have ck := hc k hlt
      have hv := H16.out k hlt
      have hs := sumI_bd k (fun j hj => H16.out j (by omega))
      have hs1 := HS.out
      have HS2 : Hid (s + x k = 1 + sumI x (k + 1)) := Lib.hid (by rw [sumI, HS.out]; omega)
      have hsb : 1 ≤ s ∧ s ≤ 1 + 60 * 65535 := by
        have : (k : Int) * 65535 ≤ 60 * 65535 := Int.mul_le_mul_of_nonneg_right (by omega) (by omega)
        omega
      clear hs hs1 hc HS HX HROW
      generalize x k = v at ck hv HS2
      have y0 : IntKind.i64.wrap v = v := wrap_i _ (by omega) (by omega)
      have y1 : IntKind.i64.wrap (s + v) = s + v := wrap_i _ (by omega) (by omega)
      have i1 : (k : Int) < (n : Int) := by omega
      go_wp2
      go_round
      case rel => exact ⟨k + 1, s + v, by omega, by go_num, rfl, HS2⟩
      case measure => simp [RowKit.intOf]; omega
    · obtain rfl : n = k := by omega
      have hs := sumI_bd n H16.out
      have hs1 := HS.out
      have hsb : 1 ≤ s ∧ s ≤ 1 + 60 * 65535 := by
        have : (n : Int) * 65535 ≤ 60 * 65535 := Int.mul_le_mul_of_nonneg_right (by omega) (by omega)
        omega
      clear hs hs1 hlt hk HX
      have hO0 : (w.alloc (.cells #[] 25)).ownsRow w.heap.size 25 1 (.slice (some ⟨w.heap.size, 0, none⟩) 0 0) 0 [] := World.ownsRow_made w #[] 0 (Nat.le_refl _) (by unfold maxLen; omega) (by simp)
      obtain ⟨v1, wA, hr1, ho1, hgr1⟩ := app_row Try.underlying22 infoU16 (by omega) w.heap.size 22 w (w.alloc (.cells #[] 25)) _ 0 [] hO0 p n cp zs HROW.out (fun a u h => by
        have hlt := World.block_lt_of_cell? w a h
        rw [World.cell?_alloc_old w _ a (Nat.ne_of_lt hlt)]; exact h) (by omega) (by simp)
      have hb0 : Below w.heap.size w (w.alloc (.cells #[] 25)) := (Below.refl _ _).alloc (Nat.le_refl _) _
      have hbA : Below w.heap.size w wA := hb0.grown hgr1 hb0.size (fun k hk => (hO0.lt k hk).1)
      obtain ⟨v2, wB, hr2, ho2, hgr2⟩ := app_one Try.underlying22 infoU16 (by omega) w.heap.size 22 wA _ (0 + n) _ ho1 1 (by omega) hbA.size
      have hbB0 := hbA.alloc hbA.size (.cells #[.int .u16 1] 25)
      have hbB : Below w.heap.size w wB := hbB0.grown hgr2 hbB0.size (fun k hk => (ho1.lt k hk).1)
      have R1 := Lib.hid hr1
      have R2 := Lib.hid hr2
      rw [Nat.zero_add] at ho2
      obtain ⟨g, c2, cur, rfl, -, -, -⟩ : ∃ g c2 cur, v2 = .slice (some ⟨g, 0, none⟩) (n + 1) c2 ∧ w.heap.size ≤ g ∧ wB.heap[g]? = some (.cells cur 25 (0, 0)) ∧ True := by
        rcases ho2.2 with ⟨_, h⟩ | ⟨g, c2, cur, h1, h2, h3, _⟩
        · omega
        · exact ⟨g, c2, cur, h1, h2, h3, trivial⟩
      obtain ⟨y, hyd, hyn⟩ : ∃ y : Nat → Int, (∀ j, j < n → y j = x j) ∧ y n = 1 := ⟨fun j => if j < n then x j else 1, fun j hj => by simp [hj], by simp⟩
      have HC : Hid (∀ j, j < n + 1 → wB.cell? ⟨g, j, none⟩ = some (.int .u16 (y j))) := Lib.hid (fun j hj => by
        have h := ho2.cells (g := g) rfl j (.int .u16 (y j)) (by
          by_cases e : j < n
          · rw [List.nil_append, List.getElem?_append_left (by rw [rowK_len]; exact e), rowK_at _ _ _ _ e, hyd j e, hzx j e]
          · obtain rfl : j = n := by omega
            rw [List.nil_append, List.getElem?_append_right (by rw [rowK_len]; omega), rowK_len, hyn]; simp)
        rw [← h]; congr 1; simp [Addr.add])
      have HY : Hid (∀ j, j < n + 1 → 0 ≤ y j ∧ y j ≤ 65535) := Lib.hid (fun j hj => by
        by_cases e : j < n
        · rw [hyd j e]; exact H16.out j e
        · obtain rfl : j = n := by omega
          rw [hyn]; omega)
      have HSY : Hid (s = sumI y (n + 1)) := Lib.hid (by rw [sumI, hyn, sumI_congr n hyd, HS.out]; omega)
      clear hr1 hr2 ho1 ho2 hgr1 hgr2 hb0 hbA hbB0 hO0 hyd hyn hzx HS H16 HROW
      have hf2 : s ≤ 1125899906842624 := by omega
      go_wp2_with (first | (at_builtin; refine Lib.wpList_append_run _ rfl _ _ 22 22 rfl _ _ rfl rfl v1 wA (R1.out) ?_) | (at_builtin; refine Lib.wpList_append_run _ rfl _ _ 22 22 rfl _ _ rfl rfl _ wB (R2.out) ?_))
      go_loopw [6, 7, 11, 12, 13, 47] (fun av sv _ _ _ kv wr => ∃ k m : Nat, ∃ a r : Int, k ≤ n + 1 ∧ kv = .int .i64 k ∧ wr = wB.drewN m ∧ av = .int .i64 a ∧ sv = .int .i64 r ∧ Hid (a = sumI y k) ∧ Hid (r = upV t a s)) (fun _ _ _ _ _ kv _ => n + 1 - (RowKit.intOf kv).toNat)
      case atStart => exact ⟨0, 0, 0, 0, by omega, rfl, rfl, rfl, rfl, Lib.hid rfl, Lib.hid (upV_none t s (by omega)).symm⟩
      case round =>
        clear R1 R2
        obtain ⟨k, m, a, r, hk, rfl, rfl, rfl, rfl, HA, HR⟩ := hrel
        by_cases hlt : k < n + 1
        · have ck := HC.out k hlt
          have hv := HY.out k hlt
          have ha0 := (sumI_bd k (fun j hj => HY.out j (by omega))).1
          have hle : sumI y (k + 1) ≤ s := by rw [HSY.out]; exact sumI_mono hlt (fun j hj => (HY.out j hj).1)
          have HA2 : Hid (a + y k = sumI y (k + 1)) := Lib.hid (by rw [sumI, HA.out])
          rw [← HA.out] at ha0
          rw [← HA2.out] at hle
          clear HC HY
          generalize y k = v at ck hv hle HA2
          obtain ⟨q1, q2⟩ := bet_of (b := a + v) hfit ha0 (by omega) hle (by omega) hf2
          have u1 := upV_bound (a := a) (f := s) hfit (by omega)
          have u2 := upV_bound (a := a + v) hfit hle
          have H := Lib.hid (Between_any t a (a + v) s)
          rw [q1, q2, ← HR.out] at H
          rw [← HR.out] at u1
          clear q1 q2 HR
          obtain ⟨U, hU⟩ : ∃ U, U = upV t (a + v) s := ⟨_, rfl⟩
          have HU := Lib.hid hU
          rw [← hU] at H u2
          clear hU
          obtain ⟨c, hc⟩ : ∃ c, c = U - r := ⟨_, rfl⟩
          rw [← hc] at H
          have y0 : IntKind.i64.wrap v = v := wrap_i _ (by omega) (by omega)
          have y1 : IntKind.i64.wrap (a + v) = a + v := wrap_i _ (by omega) (by omega)
          have y2 : r + c = U := by omega
          have y3 : IntKind.i64.wrap U = U := wrap_i _ (by omega) (by omega)
          have i1 : (k : Int) < (n : Int) + 1 := by omega
          clear hc
          go_wp2_with fail
          refine (H.out _).mono ?_
          rintro e w2 ⟨rfl, m2, rfl⟩
          go_wp2
          exact ⟨⟨k + 1, _, a + v, U, by omega, by go_num, rfl, rfl, rfl, HA2, HU⟩, by simp [RowKit.intOf]; omega⟩
        · obtain rfl : k = n + 1 := by omega
          obtain rfl : s = a := by rw [HA.out, HSY.out]
          obtain ⟨p1, p2⟩ := up_of (a := s) hfit (by omega) (Int.le_refl _) (by omega) hf2
          obtain ⟨p3, p4⟩ := up_of (a := 0) (f := s) hfit (by omega) (by omega) (by omega) hf2
          rw [upV_all t s (by omega)] at p2
          rw [upV_none t s (by omega)] at p4
          have hr := HR.out
          rw [upV_all t s (by omega)] at hr
          have H1 := Lib.hid (UpTo_any t s s)
          have H2 := Lib.hid (UpTo_any t 0 s)
          rw [p1, p2] at H1
          rw [p3, p4] at H2
          subst hr
          have dt : (r == r) = true := by simp
          clear p1 p2 p3 p4 HA HSY HR HC HY
          go_wp2_with fail
          refine (H1.out _).mono ?_
          rintro e w2 ⟨rfl, m2, rfl⟩
          go_wp2_with fail
          refine (H2.out _).mono ?_
          rintro e w3 ⟨rfl, m3, rfl⟩
          go_wp2_with fail
          refine (awake_any _).mono ?_
          rintro e w4 ⟨rfl, hb4⟩
          go_wp2
          go_ret
          exact ⟨rfl, (below_drewN hbB (m + m2 + m3)).trans (hb4.mono hbB.size)⟩

end Go.Proofs.Ytkhjlpjhmdmfiaa
