/-
  What is proved: the walk of the statement WeekParts: the call returns true. Conditions: none beyond what came in.
-/
import Derived.Test.YtcpibhjildfodaaWkJ
import Derived.Deep.RegionHeld3
namespace Go.Proofs.Ytcpibhjildfodaa
open Go Go.RowKit Go.Proofs
set_option linter.unusedVariables false

theorem kb_drew {W0 : World} : Below W0.heap.size W0 W0.drew := (Below.refl _ _).drew
theorem kb_call {C : Prop} {W0 w w' : World} (hb : Below w.heap.size w w') (h : C ∧ Below W0.heap.size W0 w) : Below W0.heap.size W0 w' := h.2.trans (hb.mono h.2.size)
theorem DaysIn.kp {C : Prop} {W0 w : World} {p : Option Addr} {L : List Int} (h : DaysIn W0 p L) (k : C ∧ Below W0.heap.size W0 w) : DaysIn w p L := h.below k.2 (Nat.le_refl _)
theorem lo_in {a : Int} (h : -25567 ≤ a) : lo a = a := by unfold lo; omega
theorem cnt_in2 {a : Int} {n : Nat} (h1 : -25567 ≤ a) (h2 : a + n ≤ 84006) : cnt a (a + n) = n := by unfold cnt; omega
theorem mins_in (q : Nat → Int) (F : List Int) {a : Int} {n : Nat} (h1 : -25567 ≤ a) (h2 : a + n ≤ 84006) : minsV q F a (a + n) = sumD (fun d => onV q F d) a n ∧ daysV q F a (a + n) = sumD (fun d => one (onV q F d)) a n := by
  unfold minsV daysV; rw [lo_in h1, cnt_in2 h1 h2]; exact ⟨rfl, rfl⟩
theorem mins_no (q : Nat → Int) (F : List Int) {a b : Int} (h : b ≤ a) : minsV q F a b = 0 := by
  unfold minsV; rw [show cnt a b = 0 by unfold cnt; omega]; rfl

set_option maxHeartbeats 8000000 in
set_option maxRecDepth 100000 in
theorem walkWeekParts (q : Nat → Int) (p : Option Addr) (F : List Int) (c : Nat) (U l0 l1 : Int) (w : World) (hD : DaysIn w p F) (hcap : F.length ≤ c) (hmax : F.length ≤ maxLen) (w0 : (Lit.int .u16 U).wf = true) (w1 : 0 ≤ l0 ∧ l0 ≤ 255 ∧ 0 ≤ l1 ∧ l1 ≤ 255) :
    Calls Try.prog 5 #[.agg #[.int .i64 (q 0), .int .i64 (q 1), .int .i64 (q 2), .int .i64 (q 3), .int .i64 (q 4), .int .i64 (q 5), .int .i64 (q 6), .slice p F.length c], .int .u16 U, .agg #[.int .u8 l0, .int .u8 l1]] w fun e w' => e = .returned (.bool true) ∧ Below w.heap.size w w' := by
  have hU : 0 ≤ U ∧ U ≤ 65535 := by
    simp [Lit.wf, IntKind.min, IntKind.max, IntKind.signed, IntKind.bits] at w0; omega
  obtain ⟨hU1, hU2⟩ := hU
  obtain ⟨a1, a2, a3, a4⟩ := w1
  obtain ⟨A, hA⟩ : ∃ A, A = 18000 + U % 3000 := ⟨_, rfl⟩
  obtain ⟨B, hB⟩ : ∃ B, B = A + l0 := ⟨_, rfl⟩
  obtain ⟨C, hC⟩ : ∃ C, C = B + l1 := ⟨_, rfl⟩
  have hA1 : 18000 ≤ A := by omega
  have hA2 : A < 21000 := by omega
  have hB1 : A ≤ B := by omega
  have hB2 : B ≤ A + 255 := by omega
  have hC1 : B ≤ C := by omega
  have hC2 : C ≤ B + 255 := by omega
  obtain ⟨N, hN⟩ : ∃ N : Nat, C = A + (N : Int) := ⟨(C - A).toNat, by omega⟩
  have HO := fun d W h => On_any q F d p c W h
  have HG := great_any q F.length p c
  obtain ⟨s1, hs1⟩ : ∃ s, s = minsV q F A B := ⟨_, rfl⟩
  obtain ⟨s2, hs2⟩ : ∃ s, s = minsV q F B C := ⟨_, rfl⟩
  obtain ⟨e1, he1⟩ : ∃ s, s = daysV q F A B := ⟨_, rfl⟩
  obtain ⟨e2, he2⟩ : ∃ s, s = daysV q F B C := ⟨_, rfl⟩
  have hsum : minsV q F A C = s1 + s2 ∧ daysV q F A C = e1 + e2 := by
    obtain ⟨n1, hn1⟩ : ∃ n1 : Nat, B = A + (n1 : Int) := ⟨l0.toNat, by omega⟩
    obtain ⟨n2, hn2⟩ : ∃ n2 : Nat, C = B + (n2 : Int) := ⟨l1.toNat, by omega⟩
    have hC3 : C = A + ((n1 + n2 : Nat) : Int) := by omega
    obtain ⟨x1, x2⟩ := mins_in q F (a := A) (n := n1) (by omega) (by omega)
    obtain ⟨x3, x4⟩ := mins_in q F (a := B) (n := n2) (by omega) (by omega)
    obtain ⟨x5, x6⟩ := mins_in q F (a := A) (n := n1 + n2) (by omega) (by omega)
    rw [hs1, hs2, he1, he2]
    rw [← hn1] at x1 x2
    rw [← hn2] at x3 x4
    rw [← hC3] at x5 x6
    rw [x1, x2, x3, x4, x5, x6, sumD_add, sumD_add, hn1]
    exact ⟨rfl, rfl⟩
  have hM3 : minsV q F A C = sumD (fun d => onV q F d) A N := by rw [hN]; exact (mins_in q F (by omega) (by omega)).1
  have b1 := minsV_bd q F A B
  have b2 := minsV_bd q F B C
  have b3 := daysV_bd q F A B
  have b4 := daysV_bd q F B C
  rw [← hs1] at b1
  rw [← hs2] at b2
  rw [← he1] at b3
  rw [← he2] at b4
  have M13 := fun W h => Minutes_any q F p c A C W h hcap
  have M12 := fun W h => Minutes_any q F p c A B W h hcap
  have M23 := fun W h => Minutes_any q F p c B C W h hcap
  have M0 := fun W h => Minutes_any q F p c C (A - 1) W h hcap
  have D13 := fun W h => Days_any q F p c A C W h hcap
  have D12 := fun W h => Days_any q F p c A B W h hcap
  have D23 := fun W h => Days_any q F p c B C W h hcap
  rw [hsum.1] at M13
  rw [hsum.2] at D13
  rw [← hs1] at M12
  rw [← hs2] at M23
  rw [← he1] at D12
  rw [← he2] at D23
  rw [mins_no q F (by omega)] at M0
  have HSN : Hid (sumD (fun d => onV q F d) A N = s1 + s2) := Lib.hid (by rw [← hM3]; exact hsum.1)
  have HSB : Hid (∀ j : Nat, 0 ≤ sumD (fun d => onV q F d) A j ∧ sumD (fun d => onV q F d) A j ≤ 1440 * (j : Int)) := Lib.hid (fun j => sumD_bd (f := fun d => onV q F d) (a := A) (fun d => onV_bd q F d) j)
  have HSS : Hid (∀ j : Nat, sumD (fun d => onV q F d) A (j + 1) = sumD (fun d => onV q F d) A j + onV q F (A + (j : Int))) := Lib.hid (fun j => rfl)
  have HOB : Hid (∀ d, 0 ≤ onV q F d ∧ onV q F d ≤ 1440) := Lib.hid (onV_bd q F)
  obtain ⟨n, hnl⟩ : ∃ n, n = F.length := ⟨_, rfl⟩
  obtain ⟨W1, hW1⟩ : ∃ W1, W1 = (w.alloc (.cells #[.int .i64 (q 0), .int .i64 (q 1), .int .i64 (q 2), .int .i64 (q 3), .int .i64 (q 4), .int .i64 (q 5), .int .i64 (q 6), .slice p n c] 26)).alloc (.cells #[.int .u8 l0, .int .u8 l1] 43) := ⟨_, rfl⟩
  have hza : (w.alloc (.cells #[.int .i64 (q 0), .int .i64 (q 1), .int .i64 (q 2), .int .i64 (q 3), .int .i64 (q 4), .int .i64 (q 5), .int .i64 (q 6), .slice p n c] 26)).heap.size = w.heap.size + 1 := by simp
  have hb0 : Below w.heap.size w W1 := by rw [hW1]; exact ((Below.refl w.heap.size w).alloc (Nat.le_refl _) _).alloc (by simp) _
  have hP : PatBox W1 w.heap.size q (.slice p n c) := by rw [hW1]; exact (PatBox.new q _ w _).below ((Below.refl _ _).alloc (Nat.le_refl _) _)
  have t0 : W1.cell? ⟨w.heap.size + 1, 0, none⟩ = some (.int .u8 l0) := by rw [hW1, ← hza, World.cell?_alloc_new]; rfl
  have t1 : W1.cell? ⟨w.heap.size + 1, 1, none⟩ = some (.int .u8 l1) := by rw [hW1, ← hza, World.cell?_alloc_new]; rfl
  have d0 := hD.below hb0 (Nat.le_refl _)
  have hN2 : N ≤ 510 := by omega
  have HA : Hid (18000 + U % 3000 = A) := Lib.hid hA.symm
  have HB : Hid (A + l0 = B) := Lib.hid hB.symm
  have HC : Hid (B + l1 = C) := Lib.hid hC.symm
  have HN := Lib.hid hN
  rw [← hnl] at HO HG M13 M12 M23 M0 D13 D12 D23 ⊢
  have HO := Lib.hid HO
  have M13 := Lib.hid M13
  have M12 := Lib.hid M12
  have M23 := Lib.hid M23
  have M0 := Lib.hid M0
  have D13 := Lib.hid D13
  have D12 := Lib.hid D12
  have D23 := Lib.hid D23
  clear hD hcap hmax w0 hnl hza hA hB hC hN hs1 hs2 he1 he2 hsum hM3
  by_cases hbig : 300 < n
  · rw [decide_eq_true hbig] at HG
    have HG := Lib.hid HG
    clear hbig
    obtain ⟨z0, z1, z2, z3, z4, z5, z6, z7⟩ := hP.all
    go_enter Try.func5, Try.ntmps5
    go_wp2_with fail
    rw [← hW1]
    clear hW1
    refine (HG.out _).mono ?_
    rintro e w2 ⟨rfl, hb2⟩
    have hb3 := hb0.trans (hb2.mono hb0.size)
    go_wp2_with fail
    refine (awake_any _).mono ?_
    rintro e w4 ⟨rfl, hb4⟩
    have hb5 := hb3.trans (hb4.mono hb3.size)
    go_wp2
    go_ret
    exact ⟨rfl, hb5⟩
  · rw [decide_eq_false hbig] at HG
    have HG := Lib.hid HG
    clear hbig
    obtain ⟨z0, z1, z2, z3, z4, z5, z6, z7⟩ := hP.all
    go_enter Try.func5, Try.ntmps5
    go_wp2_with fail
    rw [← hW1]
    clear hW1
    refine (HG.out _).mono ?_
    rintro e w2 ⟨rfl, hb2⟩
    have d1 := Lib.hid (d0.stay hb2)
    have hP1 := hP.below hb2
    have x0 := stay hb2 t0
    have x1 := stay hb2 t1
    have hb3 := hb0.trans (hb2.mono hb0.size)
    clear z0 z1 z2 z3 z4 z5 z6 z7 d0 hP hb0 hb2 t0 t1 HG
    go_wp2
    rw [HA.out, HB.out, HC.out]
    go_loopw [10, 11] (fun sv dv wr => ∃ (j : Nat) (D S : Int), j ≤ N ∧ dv = .int .i64 D ∧ sv = .int .i64 S ∧ Hid (D = A + (j : Int)) ∧ Hid (S = sumD (fun d => onV q F d) A j) ∧ A ≤ D ∧ D ≤ C ∧ Below w2.heap.size w2 wr) (fun _ dv _ => (C - RowKit.intOf dv).toNat)
    case atStart => exact ⟨0, A, 0, by omega, rfl, rfl, Lib.hid (by omega), Lib.hid rfl, by omega, by omega, Below.refl _ _⟩
    case round =>
      obtain ⟨j, D, S, hj, rfl, rfl, HD, HS, hD1, hD2, hb⟩ := hrel
      have hP2 := hP1.below hb
      have d2 := Lib.hid (d1.out.stay hb)
      obtain ⟨z0, z1, z2, z3, z4, z5, z6, z7⟩ := hP2.all
      by_cases hlt : D < C
      · have hjN : j < N := by have := HD.out; have := HN.out; omega
        have g1 := HSB.out j
        have g2 := HOB.out D
        have g3 : Hid (S + onV q F D = sumD (fun d => onV q F d) A (j + 1)) := Lib.hid (by rw [HSS.out j, ← HS.out, ← HD.out])
        rw [← HS.out] at g1
        have HOD := Lib.hid (HO.out D)
        generalize onV q F D = y at *
        go_wp2_with fail
        refine (HOD.out _ d2.out).mono ?_
        rintro e w3 ⟨rfl, hb4⟩
        have hb5 := hb.trans (hb4.mono hb.size)
        go_wp2
        exact ⟨⟨j + 1, D + 1, S + y, by omega, rfl, rfl, Lib.hid (by have := HD.out; omega), g3, by omega, by omega, hb5⟩, by simp [RowKit.intOf]; omega⟩
      · have hjN : j = N := by have := HD.out; have := HN.out; omega
        have HS2 : Hid (S = s1 + s2) := Lib.hid (by rw [HS.out, hjN]; exact HSN.out)
        clear hjN HS HSN HSB HSS HOB HO
        obtain rfl := HS2.out
        have hb6 := hb3.trans (hb.mono hb3.size)
        clear hb
        go_wp2
        obtain ⟨W4, hW4⟩ : ∃ W4, W4 = ((wr.alloc (.cells #[.int .i64 A, .int .i64 B] 37)).alloc (.cells #[.int .i64 B, .int .i64 C] 37)).alloc (.cells #[.int .i64 A, .int .i64 C] 37) := ⟨_, rfl⟩
        have y1 : (wr.alloc (.cells #[.int .i64 A, .int .i64 B] 37)).heap.size = wr.heap.size + 1 := by simp
        have y2 : ((wr.alloc (.cells #[.int .i64 A, .int .i64 B] 37)).alloc (.cells #[.int .i64 B, .int .i64 C] 37)).heap.size = wr.heap.size + 1 + 1 := by simp
        have hb7 : Below wr.heap.size wr W4 := by rw [hW4]; exact (((Below.refl wr.heap.size wr).alloc (Nat.le_refl _) _).alloc (by simp) _).alloc (by simp; omega) _
        have u4 : W4.cell? ⟨wr.heap.size + 1 + 1, 0, none⟩ = some (.int .i64 A) := by rw [hW4, ← y2, World.cell?_alloc_new]; rfl
        have u5 : W4.cell? ⟨wr.heap.size + 1 + 1, 1, none⟩ = some (.int .i64 C) := by rw [hW4, ← y2, World.cell?_alloc_new]; rfl
        have u2 : W4.cell? ⟨wr.heap.size + 1, 0, none⟩ = some (.int .i64 B) := by rw [hW4, World.cell?_alloc_lt _ _ _ (by rw [y2]; show wr.heap.size + 1 < _; omega), ← y1, World.cell?_alloc_new]; rfl
        have u3 : W4.cell? ⟨wr.heap.size + 1, 1, none⟩ = some (.int .i64 C) := by rw [hW4, World.cell?_alloc_lt _ _ _ (by rw [y2]; show wr.heap.size + 1 < _; omega), ← y1, World.cell?_alloc_new]; rfl
        have u0 : W4.cell? ⟨wr.heap.size, 0, none⟩ = some (.int .i64 A) := by rw [hW4, World.cell?_alloc_lt _ _ _ (by rw [y2]; show wr.heap.size < _; omega), World.cell?_alloc_lt _ _ _ (by rw [y1]; show wr.heap.size < _; omega), World.cell?_alloc_new]; rfl
        have u1 : W4.cell? ⟨wr.heap.size, 1, none⟩ = some (.int .i64 B) := by rw [hW4, World.cell?_alloc_lt _ _ _ (by rw [y2]; show wr.heap.size < _; omega), World.cell?_alloc_lt _ _ _ (by rw [y1]; show wr.heap.size < _; omega), World.cell?_alloc_new]; rfl
        have hP4 := hP2.below hb7
        have d4 := Lib.hid (d2.out.stay hb7)
        have hb8 := hb6.trans (hb7.mono hb6.size)
        clear z0 z1 z2 z3 z4 z5 z6 z7 hP2 d2 hb7 hb6 y1 y2
        obtain ⟨z0, z1, z2, z3, z4, z5, z6, z7⟩ := hP4.all
        have KP : Hid (∀ w', Below W4.heap.size W4 w' → (w'.cell? ⟨w.heap.size, 0, none⟩ = some (.int .i64 (q 0)) ∧ w'.cell? ⟨w.heap.size, 1, none⟩ = some (.int .i64 (q 1)) ∧ w'.cell? ⟨w.heap.size, 2, none⟩ = some (.int .i64 (q 2)) ∧ w'.cell? ⟨w.heap.size, 3, none⟩ = some (.int .i64 (q 3)) ∧ w'.cell? ⟨w.heap.size, 4, none⟩ = some (.int .i64 (q 4)) ∧ w'.cell? ⟨w.heap.size, 5, none⟩ = some (.int .i64 (q 5)) ∧ w'.cell? ⟨w.heap.size, 6, none⟩ = some (.int .i64 (q 6)) ∧ w'.cell? ⟨w.heap.size, 7, none⟩ = some (.slice p n c) ∧ w'.cell? ⟨wr.heap.size, 0, none⟩ = some (.int .i64 A) ∧ w'.cell? ⟨wr.heap.size, 1, none⟩ = some (.int .i64 B) ∧ w'.cell? ⟨wr.heap.size + 1, 0, none⟩ = some (.int .i64 B) ∧ w'.cell? ⟨wr.heap.size + 1, 1, none⟩ = some (.int .i64 C) ∧ w'.cell? ⟨wr.heap.size + 1 + 1, 0, none⟩ = some (.int .i64 A) ∧ w'.cell? ⟨wr.heap.size + 1 + 1, 1, none⟩ = some (.int .i64 C)) ∧ Below W4.heap.size W4 w') := Lib.hid (fun w' h => ⟨⟨stay h z0, stay h z1, stay h z2, stay h z3, stay h z4, stay h z5, stay h z6, stay h z7, stay h u0, stay h u1, stay h u2, stay h u3, stay h u4, stay h u5⟩, h⟩)
        rw [← hW4]
        clear hW4 hP4
        have i1 : IntKind.i64.wrap (s1 + s2) = s1 + s2 := IntWalk.i64_in _ (by omega)
        have i2 : IntKind.i64.wrap (e1 + e2) = e1 + e2 := IntWalk.i64_in _ (by omega)
        have i3 : IntKind.i64.wrap (A - 1) = A - 1 := IntWalk.i64_in _ (by omega)
        clear b1 b2 b3 b4
        go_region_held3 (fun w' => (w'.cell? ⟨w.heap.size, 0, none⟩ = some (.int .i64 (q 0)) ∧ w'.cell? ⟨w.heap.size, 1, none⟩ = some (.int .i64 (q 1)) ∧ w'.cell? ⟨w.heap.size, 2, none⟩ = some (.int .i64 (q 2)) ∧ w'.cell? ⟨w.heap.size, 3, none⟩ = some (.int .i64 (q 3)) ∧ w'.cell? ⟨w.heap.size, 4, none⟩ = some (.int .i64 (q 4)) ∧ w'.cell? ⟨w.heap.size, 5, none⟩ = some (.int .i64 (q 5)) ∧ w'.cell? ⟨w.heap.size, 6, none⟩ = some (.int .i64 (q 6)) ∧ w'.cell? ⟨w.heap.size, 7, none⟩ = some (.slice p n c) ∧ w'.cell? ⟨wr.heap.size, 0, none⟩ = some (.int .i64 A) ∧ w'.cell? ⟨wr.heap.size, 1, none⟩ = some (.int .i64 B) ∧ w'.cell? ⟨wr.heap.size + 1, 0, none⟩ = some (.int .i64 B) ∧ w'.cell? ⟨wr.heap.size + 1, 1, none⟩ = some (.int .i64 C) ∧ w'.cell? ⟨wr.heap.size + 1 + 1, 0, none⟩ = some (.int .i64 A) ∧ w'.cell? ⟨wr.heap.size + 1 + 1, 1, none⟩ = some (.int .i64 C)) ∧ Below W4.heap.size W4 w') (first | exact KP.out _ kb_drew | exact KP.out _ (by assumption)) (first | (go_at_call 15; first | ((with_reducible refine (M13.out _ (d4.out.kp (by assumption))).mono ?_); rintro e wx ⟨rfl, hbx⟩; have hkx : Below W4.heap.size W4 wx := kb_call hbx (by assumption)) | ((with_reducible refine (M12.out _ (d4.out.kp (by assumption))).mono ?_); rintro e wx ⟨rfl, hbx⟩; have hkx : Below W4.heap.size W4 wx := kb_call hbx (by assumption)) | ((with_reducible refine (M23.out _ (d4.out.kp (by assumption))).mono ?_); rintro e wx ⟨rfl, hbx⟩; have hkx : Below W4.heap.size W4 wx := kb_call hbx (by assumption)) | ((with_reducible refine (M0.out _ (d4.out.kp (by assumption))).mono ?_); rintro e wx ⟨rfl, hbx⟩; have hkx : Below W4.heap.size W4 wx := kb_call hbx (by assumption))) | (go_at_call 16; first | ((with_reducible refine (D13.out _ (d4.out.kp (by assumption))).mono ?_); rintro e wx ⟨rfl, hbx⟩; have hkx : Below W4.heap.size W4 wx := kb_call hbx (by assumption)) | ((with_reducible refine (D12.out _ (d4.out.kp (by assumption))).mono ?_); rintro e wx ⟨rfl, hbx⟩; have hkx : Below W4.heap.size W4 wx := kb_call hbx (by assumption)) | ((with_reducible refine (D23.out _ (d4.out.kp (by assumption))).mono ?_); rintro e wx ⟨rfl, hbx⟩; have hkx : Below W4.heap.size W4 wx := kb_call hbx (by assumption))) | (go_at_call 9; refine (awake_any _).mono ?_; rintro e wx ⟨rfl, hbx⟩; have hkx : Below W4.heap.size W4 wx := kb_call hbx (by assumption)))
        go_wp2
        go_ret
        exact ⟨rfl, hb8.trans (Below.mono (by assumption) hb8.size)⟩

end Go.Proofs.Ytcpibhjildfodaa
