/-
  What is proved: the contract of Find of a calendar. Conditions: the tables read as their texts lay them.
-/
import Derived.Test.YtfmabjfibjnkoaaDoorPdE
namespace Go.Proofs.YtfmabjfibjnkoaaDoor
open Go Go.RowKit Go.Proofs Go.Shelf
set_option linter.unusedVariables false

set_option maxHeartbeats 4000000 in
set_option maxRecDepth 100000 in
theorem Find_any (k f l d : Int) (w : World) (hT : Tabs w) :
    Calls Tryd.prog 9 #[.agg #[.int .i64 k, .int .i64 f, .int .i64 l], .int .i64 d] w (FindPost k f l d w) := by
  obtain ⟨W1, hW1⟩ : ∃ W1, W1 = (w.alloc (.cells #[.int .i64 k, .int .i64 f, .int .i64 l] 24)).alloc (.cells #[.int .i64 0, .int .i64 0, .int .i64 0, .int .i64 0, .int .i64 0, .int .i64 0] 30) := ⟨_, rfl⟩
  have hza : (w.alloc (.cells #[.int .i64 k, .int .i64 f, .int .i64 l] 24)).heap.size = w.heap.size + 1 := by simp
  have hb0 : Below w.heap.size w W1 := by rw [hW1]; exact ((Below.refl w.heap.size w).alloc (Nat.le_refl _) _).alloc (by simp) _
  have x0 : W1.cell? ⟨w.heap.size, 0, none⟩ = some (.int .i64 k) := by rw [hW1, World.cell?_alloc_lt _ _ _ (by rw [hza]; show w.heap.size < _; omega), World.cell?_alloc_new]; rfl
  have x1 : W1.cell? ⟨w.heap.size, 1, none⟩ = some (.int .i64 f) := by rw [hW1, World.cell?_alloc_lt _ _ _ (by rw [hza]; show w.heap.size < _; omega), World.cell?_alloc_new]; rfl
  have x2 : W1.cell? ⟨w.heap.size, 2, none⟩ = some (.int .i64 l) := by rw [hW1, World.cell?_alloc_lt _ _ _ (by rw [hza]; show w.heap.size < _; omega), World.cell?_alloc_new]; rfl
  have hR1 : Res6 W1 (w.heap.size + 1) := by
    rw [hW1, ← hza]
    refine ⟨fun j hj => ?_, fun j => by simp⟩
    rw [World.cell?_alloc_new]
    have e : j = 0 ∨ j = 1 ∨ j = 2 ∨ j = 3 ∨ j = 4 ∨ j = 5 := by omega
    rcases e with rfl | rfl | rfl | rfl | rfl | rfl <;> rfl
  have hT1 := Lib.hid (hT.stay hb0)
  have HC := Check_any k f l W1 hT1.out.1
  clear hT hza
  by_cases hc : chkC k f l = 0
  · obtain ⟨hk, hf, hl1, hl2⟩ := chkC_zero hc
    rw [hc] at HC
    have HC := Lib.hid HC
    have HAR := Lib.hid (fun W hT hd => around_any k f l d W hT hk hf hd)
    have HPE := Lib.hid (fun y W hT h1 h2 => periods_any k f l y W hT hc h1 h2)
    have HF := Lib.hid hc
    clear hc hk hf
    cases hin : inB d with
    | false =>
      have HP : Hid (FindPost k f l d w (.returned (.tuple #[.agg #[.int .i64 0, .int .i64 0, .int .i64 0, .int .i64 0, .int .i64 0, .int .i64 0], .int .i64 15])) w) := Lib.hid ⟨0, 0, 0, 0, 0, 0, 15, rfl, .inr (.inl ⟨HF.out, hin, rfl, rfl, rfl, rfl, rfl, rfl, rfl⟩), Below.refl _ _⟩
      have HD := fun W hL => isDay_any d W hL
      rw [hin] at HD
      have HD := Lib.hid HD
      clear hin HAR HPE HF
      go_enter Tryd.func9, Tryd.ntmps9
      go_wp2_with fail
      rw [← hW1]
      clear hW1
      refine (HC.out).mono ?_
      rintro e w2 ⟨rfl, hb2⟩
      have hT2 := hT1.out.stay hb2
      have hR2 := hR1.below hb2
      have hb3 := hb0.trans (hb2.mono hb0.size)
      clear x0 x1 x2 hR1 hb0 hb2
      go_wp2_with fail
      refine (HD.out _ hT2.1).mono ?_
      rintro e w4 ⟨rfl, hb4⟩
      have hR4 := hR2.below hb4
      have hb5 := hb3.trans (hb4.mono hb3.size)
      obtain ⟨⟨a0, a1, a2, a3, a4, a5⟩, ⟨b0, b1, b2, b3, b4, b5⟩⟩ := hR4.all
      obtain ⟨y, i, n, a, b, p, e', h1, h2, -⟩ := HP.out
      obtain ⟨q0, q1, q2, q3, q4, q5⟩ := hR4.set (.int .i64 0) (.int .i64 0) (.int .i64 0) (.int .i64 0) (.int .i64 0) (.int .i64 0)
      have hbF := set6_below hb5 (show w.heap.size ≤ w.heap.size + 1 by omega) (.int .i64 0) (.int .i64 0) (.int .i64 0) (.int .i64 0) (.int .i64 0) (.int .i64 0)
      go_wp2
      exact bodyPost_ret (v := .tuple #[.agg #[.int .i64 0, .int .i64 0, .int .i64 0, .int .i64 0, .int .i64 0, .int .i64 0], .int .i64 15]) (by simp [results, Tryd.results9, go_sem, q0, q1, q2, q3, q4, q5]) rfl ⟨y, i, n, a, b, p, e', h1, h2, hbF⟩
    | true =>
      have HD := fun W hL => isDay_any d W hL
      rw [hin] at HD
      have HD := Lib.hid HD
      have HI := Lib.hid hin
      obtain ⟨dd1, dd2⟩ := inB_iff.1 hin
      clear hin
      go_enter Tryd.func9, Tryd.ntmps9
      go_wp2_with fail
      rw [← hW1]
      clear hW1
      refine (HC.out).mono ?_
      rintro e w2 ⟨rfl, hb2⟩
      have hT2 := hT1.out.stay hb2
      have hR2 := hR1.below hb2
      have y0 := stay hb2 x0
      have y1 := stay hb2 x1
      have y2 := stay hb2 x2
      have hb3 := hb0.trans (hb2.mono hb0.size)
      clear x0 x1 x2 hR1 hb0 hb2
      go_wp2_with fail
      refine (HD.out _ hT2.1).mono ?_
      rintro e w4 ⟨rfl, hb4⟩
      have hT4 := hT2.stay hb4
      have hR4 := hR2.below hb4
      have x0 := stay hb4 y0
      have x1 := stay hb4 y1
      have x2 := stay hb4 y2
      have hb5 := hb3.trans (hb4.mono hb3.size)
      clear y0 y1 y2 hR2 hb3 hb4 hT2
      go_wp2_with fail
      refine (HAR.out _ hT4 HI.out).mono ?_
      rintro e w6 ⟨A, B, rfl, hB, hA1, hB1, hb6⟩
      have HB := Lib.hid hB
      have hlen := hB.len
      obtain ⟨W7, hW7⟩ : ∃ W7, W7 = w6.alloc (.cells #[.int .i64 A, .int .i64 B] 28) := ⟨_, rfl⟩
      have hb7 : Below w6.heap.size w6 W7 := by rw [hW7]; exact (Below.refl w6.heap.size w6).alloc (Nat.le_refl _) _
      have s0 : W7.cell? ⟨w6.heap.size, 0, none⟩ = some (.int .i64 A) := by rw [hW7, World.cell?_alloc_new]; rfl
      have s1 : W7.cell? ⟨w6.heap.size, 1, none⟩ = some (.int .i64 B) := by rw [hW7, World.cell?_alloc_new]; rfl
      have hb67 := hb6.trans (hb7.mono hb6.size)
      have hT7 := Lib.hid (hT4.stay hb67)
      have hR7 := hR4.below hb67
      have y0 := stay hb67 x0
      have y1 := stay hb67 x1
      have y2 := stay hb67 x2
      have hb8 := hb5.trans (hb67.mono hb5.size)
      have HWH := isWhole_any A B W7 hT7.out.1 (by omega) (by omega)
      clear hB x0 x1 x2 hR4 hb5 hb6 hb7 hb67 hT4 HAR HC HD
      cases hwh : wholeB A B with
      | false =>
        rw [hwh] at HWH
        have HWH := Lib.hid HWH
        have HP : Hid (FindPost k f l d w (.returned (.tuple #[.agg #[.int .i64 0, .int .i64 0, .int .i64 0, .int .i64 0, .int .i64 0, .int .i64 0], .int .i64 6])) w) := Lib.hid ⟨0, 0, 0, 0, 0, 0, 6, rfl, .inr (.inr (.inl ⟨HF.out, HI.out, ⟨A, B, HB.out, hA1, hB1, hwh⟩, rfl, rfl, rfl, rfl, rfl, rfl, rfl⟩)), Below.refl _ _⟩
        clear hwh
        rw [hW7] at s0 s1
        go_wp2_with fail
        rw [← hW7] at s0 s1 ⊢
        clear hW7
        refine (HWH.out).mono ?_
        rintro e w9 ⟨rfl, hb9⟩
        have hR9 := hR7.below hb9
        have hb10 := hb8.trans (hb9.mono hb8.size)
        clear y0 y1 y2 s0 s1 hR7 hb8 hb9
        obtain ⟨⟨a0, a1, a2, a3, a4, a5⟩, ⟨b0, b1, b2, b3, b4, b5⟩⟩ := hR9.all
        obtain ⟨y, i, n, a, b, p, e', h1, h2, -⟩ := HP.out
        obtain ⟨q0, q1, q2, q3, q4, q5⟩ := hR9.set (.int .i64 0) (.int .i64 0) (.int .i64 0) (.int .i64 0) (.int .i64 0) (.int .i64 0)
        have hbF := set6_below hb10 (show w.heap.size ≤ w.heap.size + 1 by omega) (.int .i64 0) (.int .i64 0) (.int .i64 0) (.int .i64 0) (.int .i64 0) (.int .i64 0)
        go_wp2
        exact bodyPost_ret (v := .tuple #[.agg #[.int .i64 0, .int .i64 0, .int .i64 0, .int .i64 0, .int .i64 0, .int .i64 0], .int .i64 6]) (by simp [results, Tryd.results9, go_sem, q0, q1, q2, q3, q4, q5]) rfl ⟨y, i, n, a, b, p, e', h1, h2, hbF⟩
      | true =>
        rw [hwh] at HWH
        have HWH := Lib.hid HWH
        have hw2 : inB A = true ∧ inB (B - 1) = true := by simpa [wholeB] using hwh
        obtain ⟨u1, u2⟩ := inB_iff.1 hw2.1
        obtain ⟨u3, u4⟩ := inB_iff.1 hw2.2
        obtain ⟨Y, M, E, ho, hnn⟩ := date_of (B - 1) u3 u4
        obtain ⟨v1, v2, -, -, -, -⟩ := okB_iff.1 ho
        obtain ⟨v3, v4, -, -⟩ := num_in ho
        rw [hnn] at v3 v4
        have HE : Hid (Ends k f Y A B) := Lib.hid ⟨HB.out, u1, by omega, by omega, by omega⟩
        have HTO := Lib.hid (fun W hL => to_yes Y M E (B - 1) ho hnn W hL)
        have HPY := Lib.hid (fun W hT => HPE.out Y W hT v1 v2)
        clear hwh hw2 ho hnn v3 v4 HPE
        rw [hW7] at s0 s1
        go_wp2_with fail
        rw [← hW7] at s0 s1 ⊢
        clear hW7
        refine (HWH.out).mono ?_
        rintro e w9 ⟨rfl, hb9⟩
        have hR9 := hR7.below hb9
        have c0 := stay hb9 y0
        have c1 := stay hb9 y1
        have c2 := stay hb9 y2
        have c3 := stay hb9 s0
        have c4 := stay hb9 s1
        have hT9 := Lib.hid (hT7.out.stay hb9)
        have hb10 := hb8.trans (hb9.mono hb8.size)
        have KP : Hid (∀ w', Below w9.heap.size w9 w' → (w'.cell? ⟨w.heap.size, 0, none⟩ = some (.int .i64 k) ∧ w'.cell? ⟨w.heap.size, 1, none⟩ = some (.int .i64 f) ∧ w'.cell? ⟨w.heap.size, 2, none⟩ = some (.int .i64 l) ∧ w'.cell? ⟨w6.heap.size, 1, none⟩ = some (.int .i64 B)) ∧ Below w9.heap.size w9 w') := Lib.hid (fun w' h => ⟨⟨stay h c0, stay h c1, stay h c2, stay h c4⟩, h⟩)
        have i1 : IntKind.i64.wrap (B - 1) = B - 1 := IntWalk.i64_in _ (by omega)
        have fd : ∀ W, (Instr.field 65 (.agg #[.int .i64 Y, .int .i64 M, .int .i64 E]) 0).run Tryd.prog W = .ok (.int .i64 Y) W := fun _ => by kernel_rfl
        clear y0 y1 y2 s0 s1 hR7 hb8 hb9 hT7 c0 c1 c2
        go_wp2
        go_region_held3 (fun w' => (w'.cell? ⟨w.heap.size, 0, none⟩ = some (.int .i64 k) ∧ w'.cell? ⟨w.heap.size, 1, none⟩ = some (.int .i64 f) ∧ w'.cell? ⟨w.heap.size, 2, none⟩ = some (.int .i64 l) ∧ w'.cell? ⟨w6.heap.size, 1, none⟩ = some (.int .i64 B)) ∧ Below w9.heap.size w9 w') (first | exact KP.out _ kb_drew | exact KP.out _ (by assumption)) (first | (go_at_call 29; refine (HTO.out _ (hT9.out.stay (And.right (by assumption))).1).mono ?_; rintro e wt ⟨rfl, hbt⟩; have hkt : Below w9.heap.size w9 wt := kb_call hbt (by assumption)) | (go_at_call 28; refine (HPY.out _ (hT9.out.stay (And.right (by assumption)))).mono ?_; rintro e wx ⟨K, p, c, hIY, rfl, hPI, hbx⟩; have hkx : Below w9.heap.size w9 wx := kb_call hbx (by assumption); have HIY := Lib.hid hIY; have HPI := Lib.hid hPI; clear hIY hPI))
        clear i1 fd KP HTO HPY HWH
        obtain ⟨i0, hi0, he0, hne0⟩ := year_idx HIY.out HE.out
        have hKl := HIY.out.len
        have d0 := stay hkx c3
        have d1 := stay hkx c4
        have hIX := Lib.hid (ixf_any w6.heap.size p c Y l A B K i0 wx hi0 hKl HPI.out he0 hne0 d0 d1)
        have hR10 := hR9.below hkx
        have hb11 := hb10.trans (hkx.mono hb10.size)
        have hOP : Hid (OwnP k f l Y ((i0 + 1 : Nat) : Int) (K.length : Int) A B (payV B l)) := Lib.hid ⟨v1, v2, K, HIY.out, i0, hi0, rfl, rfl, he0, rfl⟩
        have HE0 := Lib.hid he0
        have hiI : (i0 : Int) < (K.length : Int) := by omega
        clear c3 c4 hR9 hb10 d0 d1 he0 hne0 v1 v2
        go_wp2_with fail
        refine (hIX.out).mono ?_
        rintro e wy ⟨rfl, hby⟩
        have hP := HPI.out.below hby
        have hR11 := hR10.below hby
        have hb12 := hb11.trans (hby.mono hb11.size)
        rcases hP with h | ⟨bb, o, rfl, hcc⟩
        · rw [h] at hi0; simp at hi0
        obtain ⟨z0, z1, z2, z3, z4, z5⟩ := hcc i0 hi0
        rw [HE0.out] at z3 z4 z5
        dsimp only at z3 z4 z5
        clear hcc hIX hR10 hb11 hby HPI HE0
        have HFR : Hid (FindR k f l d Y ((i0 + 1 : Nat) : Int) (K.length : Int) A B (payV B l) 0) := Lib.hid (.inr (.inr (.inr ⟨HF.out, HI.out, hOP.out, hA1, hB1, rfl⟩)))
        generalize payV B l = PV at *
        generalize ((i0 + 1 : Nat) : Int) = I at *
        obtain ⟨⟨a0, a1, a2, a3, a4, a5⟩, ⟨b0, b1, b2, b3, b4, b5⟩⟩ := hR11.all
        obtain ⟨q0, q1, q2, q3, q4, q5⟩ := hR11.set (.int .i64 Y) (.int .i64 I) (.int .i64 (K.length : Int)) (.int .i64 A) (.int .i64 B) (.int .i64 PV)
        have hbF := set6_below hb12 (show w.heap.size ≤ w.heap.size + 1 by omega) (.int .i64 Y) (.int .i64 I) (.int .i64 (K.length : Int)) (.int .i64 A) (.int .i64 B) (.int .i64 PV)
        go_wp2
        exact bodyPost_ret (v := .tuple #[.agg #[.int .i64 Y, .int .i64 I, .int .i64 (K.length : Int), .int .i64 A, .int .i64 B, .int .i64 PV], .int .i64 0]) (by simp [results, Tryd.results9, go_sem, q0, q1, q2, q3, q4, q5]) rfl ⟨Y, _, _, A, B, PV, 0, rfl, HFR.out, hbF⟩
  · have HP : Hid (FindPost k f l d w (.returned (.tuple #[.agg #[.int .i64 0, .int .i64 0, .int .i64 0, .int .i64 0, .int .i64 0, .int .i64 0], .int .i64 (chkC k f l)])) w) := Lib.hid ⟨0, 0, 0, 0, 0, 0, _, rfl, .inl ⟨hc, rfl, rfl, rfl, rfl, rfl, rfl, rfl⟩, Below.refl _ _⟩
    have e1 : (chkC k f l != 0) = true := by simpa using hc
    clear hc
    generalize chkC k f l = C at *
    have HC := Lib.hid HC
    go_enter Tryd.func9, Tryd.ntmps9
    go_wp2_with fail
    rw [← hW1]
    clear hW1
    refine (HC.out).mono ?_
    rintro e w2 ⟨rfl, hb2⟩
    have hR2 := hR1.below hb2
    have hb3 := hb0.trans (hb2.mono hb0.size)
    clear x0 x1 x2 hR1 hb0 hb2
    obtain ⟨⟨a0, a1, a2, a3, a4, a5⟩, ⟨b0, b1, b2, b3, b4, b5⟩⟩ := hR2.all
    obtain ⟨y, i, n, a, b, p, e', h1, h2, -⟩ := HP.out
    obtain ⟨q0, q1, q2, q3, q4, q5⟩ := hR2.set (.int .i64 0) (.int .i64 0) (.int .i64 0) (.int .i64 0) (.int .i64 0) (.int .i64 0)
    have hbF := set6_below hb3 (show w.heap.size ≤ w.heap.size + 1 by omega) (.int .i64 0) (.int .i64 0) (.int .i64 0) (.int .i64 0) (.int .i64 0) (.int .i64 0)
    go_wp2
    exact bodyPost_ret (v := .tuple #[.agg #[.int .i64 0, .int .i64 0, .int .i64 0, .int .i64 0, .int .i64 0, .int .i64 0], .int .i64 C]) (by simp [results, Tryd.results9, go_sem, q0, q1, q2, q3, q4, q5]) rfl ⟨y, i, n, a, b, p, e', h1, h2, hbF⟩

end Go.Proofs.YtfmabjfibjnkoaaDoor
