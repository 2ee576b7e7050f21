/-
  What is proved: the contract of social's behind: the sums behind a step. Conditions: what it is handed is right, and the base fits.
-/
import Derived.Test.YtibbgihcmcnamaaSoE
namespace Go.Proofs.Ytibbgihcmcnamaa
open Go Go.RowKit Go.Lib Go.Proofs
open Ra (fitsB fitsB_iff)
set_option linter.unusedVariables false

/-- A part of what is insured lies between nothing and all of it. -/
theorem half_bd (m r : Int) (h0 : 0 ≤ m) (h1 : m ≤ 1125899906842624) (hr : partB r = true) : (Ra.ofVE m r 1).2 = 0 ∧ halfV m r = Ra.rnd 1 1000000 (m * r) ∧ 0 ≤ halfV m r ∧ halfV m r ≤ m := by
  obtain ⟨r0, r1⟩ := partB_iff.1 hr
  have e := Ra.partVE_val m r 1000000 1 (fitsB_iff.2 ⟨by omega, h1⟩) (by omega) (by omega) (by omega)
  rw [show (1000000 : Int).toNat = 1000000 from rfl] at e
  have n0 : 0 ≤ m * r := Int.mul_nonneg h0 r0
  have n1 : m * r ≤ m * 1000000 := Int.mul_le_mul_of_nonneg_left r1 h0
  have k0 := Ra.rnd_rises 1 1000000 0 (m * r) n0
  have k1 := Ra.rnd_rises 1 1000000 (m * r) (m * 1000000) n1
  rw [show Ra.rnd 1 1000000 (m * 1000000) = m from Ra.rnd_exact 1 1000000 (by omega) m] at k1
  rw [show Ra.rnd 1 1000000 0 = 0 from by decide] at k0
  have hv : Ra.ofVE m r 1 = (Ra.rnd 1 1000000 (m * r), 0) := by
    unfold Ra.ofVE
    rw [if_pos (Ra.rightB_iff.2 ⟨by omega, by omega⟩), e, if_pos (by omega)]
  unfold halfV
  rw [hv]
  exact ⟨rfl, rfl, k0, k1⟩

/-- What a step insures. -/
def moreV (a b z base : Int) : Int := max 0 (min (a + base - b) (roomV b z))

set_option maxHeartbeats 4000000 in
set_option maxRecDepth 100000 in
theorem behind_any (a b c d base : Int) (s : ByteArray) (x y z : Int) (ha0 : -1125899906842624 ≤ a) (ha1 : a ≤ 1125899906842624) (hb0 : 0 ≤ b) (hb1 : b ≤ 1125899906842624)
    (hc0 : 0 ≤ c) (hc1 : c ≤ 1125899906842624) (hd0 : 0 ≤ d) (hd1 : d ≤ 1125899906842624) (hs0 : -1125899906842624 ≤ base) (hs1 : base ≤ 1125899906842624) (hz0 : 0 ≤ z) (hz1 : z ≤ 1125899906842624)
    (hp1 : partB x = true) (hp2 : partB y = true) (w : World) :
    Calls Try.prog 23 #[.agg #[.int .i64 a, .int .i64 b, .int .i64 c, .int .i64 d], .int .i64 base, .agg #[.string s, .int .i64 x, .int .i64 y, .int .i64 z]] w fun e w' =>
      e = .returned (.agg #[.int .i64 (a + base), .int .i64 (b + moreV a b z base), .int .i64 (c + halfV (moreV a b z base) x), .int .i64 (d + halfV (moreV a b z base) y)]) ∧ Below w.heap.size w w' := by
  have HR := Lib.hid (fun W => room_any a b c d s x y z hb0 hb1 hz0 hz1 W)
  have HC := Lib.hid (fun W => clamp_any (a + base - b) 0 (roomV b z) W)
  have hmb : 0 ≤ moreV a b z base ∧ moreV a b z base ≤ 1125899906842624 := by unfold moreV roomV ceilV; split <;> omega
  rw [show max 0 (min (a + base - b) (roomV b z)) = moreV a b z base from rfl] at HC
  generalize moreV a b z base = m at HC hmb ⊢
  obtain ⟨hm0, hm1⟩ := hmb
  obtain ⟨-, -, p0, p1'⟩ := half_bd m x hm0 hm1 hp1
  obtain ⟨-, -, q0, q1'⟩ := half_bd m y hm0 hm1 hp2
  have p1 : halfV m x ≤ 1125899906842624 := by omega
  have q1 : halfV m y ≤ 1125899906842624 := by omega
  clear p1' q1'
  have HP := Lib.hid (fun W => part_any m x W)
  have HQ := Lib.hid (fun W => part_any m y W)
  generalize halfV m x = p at HP p0 p1 ⊢
  generalize halfV m y = q at HQ q0 q1 ⊢
  generalize roomV b z = r at HR HC
  clear hp1 hp2
  obtain ⟨W0, hW0⟩ : ∃ W0, W0 = ((w.alloc (.cells #[.int .i64 a, .int .i64 b, .int .i64 c, .int .i64 d] 24)).alloc (.cells #[.string s, .int .i64 x, .int .i64 y, .int .i64 z] 27)).alloc (.cells #[.int .i64 0, .int .i64 0, .int .i64 0, .int .i64 0] 24) := ⟨_, rfl⟩
  have hb3 : Below w.heap.size w W0 := by rw [hW0]; exact (((Below.refl w.heap.size w).alloc (Nat.le_refl _) _).alloc (by simp) _).alloc (by simp; omega) _
  have hsz : W0.heap.size = w.heap.size + 3 := by rw [hW0]; simp
  have z1 : (w.alloc (.cells #[.int .i64 a, .int .i64 b, .int .i64 c, .int .i64 d] 24)).heap.size = w.heap.size + 1 := by simp
  have z2 : ((w.alloc (.cells #[.int .i64 a, .int .i64 b, .int .i64 c, .int .i64 d] 24)).alloc (.cells #[.string s, .int .i64 x, .int .i64 y, .int .i64 z] 27)).heap.size = w.heap.size + 2 := by simp
  have h4 : C4 W0 w.heap.size a b c d := by
    rw [hW0]
    exact (C4.new w a b c d _).kp (((Below.refl _ _).alloc (Nat.le_refl _) _).alloc (by simp) _)
  have hS : Sc W0 (w.heap.size + 1) s x y z := by
    rw [hW0, ← z1]
    exact (Sc.new _ s x y z _).kp ((Below.refl _ _).alloc (Nat.le_refl _) _)
  have hR : Rm4 W0 (w.heap.size + 2) := by
    rw [hW0, ← z2]
    exact Rm4.new _ _ _ _ _ _
  have KP : Hid (∀ w', Below (w.heap.size + 2) W0 w' → ((w'.cell? ⟨w.heap.size, 0, none⟩ = some (.int .i64 a) ∧ w'.cell? ⟨w.heap.size, 1, none⟩ = some (.int .i64 b) ∧ w'.cell? ⟨w.heap.size, 2, none⟩ = some (.int .i64 c) ∧ w'.cell? ⟨w.heap.size, 3, none⟩ = some (.int .i64 d)) ∧
      w'.cell? ⟨w.heap.size + 1, 0, none⟩ = some (.string s) ∧ w'.cell? ⟨w.heap.size + 1, 1, none⟩ = some (.int .i64 x) ∧ w'.cell? ⟨w.heap.size + 1, 2, none⟩ = some (.int .i64 y) ∧ w'.cell? ⟨w.heap.size + 1, 3, none⟩ = some (.int .i64 z)) ∧ Below (w.heap.size + 2) W0 w') :=
    Lib.hid (fun w' h => ⟨⟨h4.kb (by omega) h, hS.kb (by omega) h⟩, h⟩)
  have hge : w.heap.size + 2 ≤ W0.heap.size := by omega
  clear z1 z2 h4 hS
  go_enter Try.func23, Try.ntmps23
  go_upto_region 1 with fail
  rw [← hW0]
  obtain ⟨⟨⟨c0, c1, c2, c3⟩, s0, s1, s2, s3⟩, -⟩ := KP.out W0 (Below.refl _ _)
  clear hW0
  go_upto_region 2 with fail
  have w1 : IntKind.i64.wrap (a + base - b) = a + base - b := IntWalk.i64_in _ (by omega)
  clear c0 c1 c2 c3 s0 s1 s2 s3
  go_region_held3 (fun w' => ((w'.cell? ⟨w.heap.size, 0, none⟩ = some (.int .i64 a) ∧ w'.cell? ⟨w.heap.size, 1, none⟩ = some (.int .i64 b) ∧ w'.cell? ⟨w.heap.size, 2, none⟩ = some (.int .i64 c) ∧ w'.cell? ⟨w.heap.size, 3, none⟩ = some (.int .i64 d)) ∧
      w'.cell? ⟨w.heap.size + 1, 0, none⟩ = some (.string s) ∧ w'.cell? ⟨w.heap.size + 1, 1, none⟩ = some (.int .i64 x) ∧ w'.cell? ⟨w.heap.size + 1, 2, none⟩ = some (.int .i64 y) ∧ w'.cell? ⟨w.heap.size + 1, 3, none⟩ = some (.int .i64 z)) ∧ Below (w.heap.size + 2) W0 w')
    (first | exact KP.out _ (Below.refl _ _).drew | exact KP.out _ (by assumption))
    (first | (go_at_call 29; refine (HR.out _).mono ?_; rintro e w5 ⟨rfl, hb5⟩; have hr5 : Rm4 w5 (w.heap.size + 2) := hR.drew.below hb5; have hk5 : Below (w.heap.size + 2) W0 w5 := (Below.refl _ W0).drew.trans (hb5.mono hge)) | (go_at_call 34; refine (HC.out _).mono ?_; rintro e w6 ⟨rfl, rfl⟩))
  rename_i hHeld
  have hk6 := hHeld.2
  clear hHeld
  have v1 : IntKind.i64.wrap (b + m) = b + m := IntWalk.i64_in _ (by omega)
  have v2 : IntKind.i64.wrap (c + p) = c + p := IntWalk.i64_in _ (by omega)
  have v3 : IntKind.i64.wrap (d + q) = d + q := IntWalk.i64_in _ (by omega)
  have hge5 := hr5.lt
  have KQ : Hid (∀ w', Below (w.heap.size + 2) W0 w' → Rm4 w' (w.heap.size + 2) → (((w'.cell? ⟨w.heap.size, 0, none⟩ = some (.int .i64 a) ∧ w'.cell? ⟨w.heap.size, 1, none⟩ = some (.int .i64 b) ∧ w'.cell? ⟨w.heap.size, 2, none⟩ = some (.int .i64 c) ∧ w'.cell? ⟨w.heap.size, 3, none⟩ = some (.int .i64 d)) ∧
      w'.cell? ⟨w.heap.size + 1, 0, none⟩ = some (.string s) ∧ w'.cell? ⟨w.heap.size + 1, 1, none⟩ = some (.int .i64 x) ∧ w'.cell? ⟨w.heap.size + 1, 2, none⟩ = some (.int .i64 y) ∧ w'.cell? ⟨w.heap.size + 1, 3, none⟩ = some (.int .i64 z)) ∧ Below (w.heap.size + 2) W0 w') ∧ Rm4 w' (w.heap.size + 2)) :=
    Lib.hid (fun w' h h' => ⟨KP.out w' h, h'⟩)
  clear hsz
  go_wp2
  go_region_held3 (fun w' => (((w'.cell? ⟨w.heap.size, 0, none⟩ = some (.int .i64 a) ∧ w'.cell? ⟨w.heap.size, 1, none⟩ = some (.int .i64 b) ∧ w'.cell? ⟨w.heap.size, 2, none⟩ = some (.int .i64 c) ∧ w'.cell? ⟨w.heap.size, 3, none⟩ = some (.int .i64 d)) ∧
      w'.cell? ⟨w.heap.size + 1, 0, none⟩ = some (.string s) ∧ w'.cell? ⟨w.heap.size + 1, 1, none⟩ = some (.int .i64 x) ∧ w'.cell? ⟨w.heap.size + 1, 2, none⟩ = some (.int .i64 y) ∧ w'.cell? ⟨w.heap.size + 1, 3, none⟩ = some (.int .i64 z)) ∧ Below (w.heap.size + 2) W0 w') ∧ Rm4 w' (w.heap.size + 2))
    (first | with_reducible exact KQ.out _ (put4_below hk8 (Nat.le_refl _) _ _ _ _) (hr8.put4 _ _ _ _) | with_reducible exact KQ.out _ hk6.drew hr5.drew | with_reducible exact KQ.out _ (by assumption) (by assumption))
    (first | (go_at_call 35; (with_reducible refine (HP.out _).mono ?_); rintro e w7 ⟨rfl, hb7⟩; have hr7 : Rm4 w7 (w.heap.size + 2) := hr5.drew.below hb7; have hk7 : Below (w.heap.size + 2) W0 w7 := hk6.drew.trans (hb7.mono (show w.heap.size + 2 ≤ w5.drew.heap.size from Nat.le_of_lt hge5))) | (go_at_call 35; (with_reducible refine (HQ.out _).mono ?_); rintro e w8 ⟨rfl, hb8⟩; have hr8 : Rm4 w8 (w.heap.size + 2) := hr7.below hb8; have hk8 : Below (w.heap.size + 2) W0 w8 := hk7.trans (hb8.mono (Nat.le_of_lt hr7.lt))) | (obtain ⟨x0, x1, x2, x3, ⟨a0, a1, a2, a3⟩, b0, b1, b2, b3⟩ := hr8.all; simp (config := { decide := true }) only [a0, a1, a2, a3, b0, b1, b2, b3, Result.andThen, World.frozen?_setCell, set_off, ne_eq, Bool.false_eq_true, reduceIte]; clear a0 a1 a2 a3 b0 b1 b2 b3; go_simp))
  have hT : C4 ((((w8.setCell ⟨w.heap.size + 1 + 1, 0, none⟩ (.int .i64 (a + base))).setCell ⟨w.heap.size + 1 + 1, 1, none⟩ (.int .i64 (b + m))).setCell ⟨w.heap.size + 1 + 1, 2, none⟩ (.int .i64 (c + p))).setCell ⟨w.heap.size + 1 + 1, 3, none⟩ (.int .i64 (d + q))) (w.heap.size + 1 + 1) (a + base) (b + m) (c + p) (d + q) := hr8.set _ _ _ _
  have hbF : Below (w.heap.size + 2) W0 ((((w8.setCell ⟨w.heap.size + 1 + 1, 0, none⟩ (.int .i64 (a + base))).setCell ⟨w.heap.size + 1 + 1, 1, none⟩ (.int .i64 (b + m))).setCell ⟨w.heap.size + 1 + 1, 2, none⟩ (.int .i64 (c + p))).setCell ⟨w.heap.size + 1 + 1, 3, none⟩ (.int .i64 (d + q))) := put4_below hk8 (Nat.le_refl _) _ _ _ _
  generalize ((((w8.setCell ⟨w.heap.size + 1 + 1, 0, none⟩ (.int .i64 (a + base))).setCell ⟨w.heap.size + 1 + 1, 1, none⟩ (.int .i64 (b + m))).setCell ⟨w.heap.size + 1 + 1, 2, none⟩ (.int .i64 (c + p))).setCell ⟨w.heap.size + 1 + 1, 3, none⟩ (.int .i64 (d + q))) = WF at hT hbF ⊢
  have hb9 : Below w.heap.size w WF := hb3.trans (hbF.mono (by omega))
  clear hbF hk8 hr8 hk7 hr7 hk6 hr5 KP KQ v1 v2 v3 w1
  obtain ⟨t0, t1, t2, t3⟩ := hT
  go_wp2
  exact bodyPost_ret (v := .agg #[.int .i64 (a + base), .int .i64 (b + m), .int .i64 (c + p), .int .i64 (d + q)]) (by simp [results, Try.results23, go_sem, t0, t1, t2, t3]) rfl ⟨rfl, hb9⟩

end Go.Proofs.Ytibbgihcmcnamaa
