/-
  What is proved: SpanCuts returns true for all that it may be handed. Conditions: what came in lies in memory as the frame says.
-/
import Derived.Test.YtefcadngdcgpiaaSpW
import Derived.Test.YtefcadngdcgpiaaSpU
import Derived.Test.YtefcadngdcgpiaaFrameP
namespace Go.Proofs.Ytefcadngdcgpiaa
open Go Go.RowKit Go.Proofs
set_option linter.unusedVariables false

theorem pieces_one {a b : Int} {D : List Int} {K L : List Sp} (k1 : b ≤ a → K = []) (k2 : a < b → ∃ r, CutsOf a b D r ∧ K = pcs a r b) (l1 : b ≤ a → L = []) (l2 : a < b → ∃ r, CutsOf a b D r ∧ L = pcs a r b) : K = L := by
  rcases Int.lt_or_le a b with h | h
  · obtain ⟨r, hr, rfl⟩ := k2 h
    obtain ⟨s, hs, rfl⟩ := l2 h
    have e : a :: r = a :: s := rise_one hr.1 hs.1 (fun x => by rw [List.mem_cons, List.mem_cons, hr.2 x, hs.2 x])
    injection e with _ e
    rw [e]
  · rw [k1 h, l1 h]

set_option maxHeartbeats 8000000 in
set_option maxRecDepth 100000 in
theorem walkSpanCuts (a b a' b' : Int) (p : Option Addr) (n cp : Nat) (zs : List Int) (w : World) (ha : in64 a) (hb : in64 b) (ha' : in64 a') (hb' : in64 b') (hr : IsRow .i64 w p n cp zs) :
    Calls Try.prog 7 #[.agg #[.int .i64 a, .int .i64 b], .agg #[.int .i64 a', .int .i64 b'], .slice p n cp] w fun e w' => e = .returned (.bool true) ∧ Below w.heap.size w w' := by
  obtain ⟨hl, hdi, h64, -⟩ := days_of hr
  clear hr
  generalize zs.take n = D at *
  subst hl
  obtain ⟨W0, hW0⟩ : ∃ W0, W0 = (w.alloc (.cells #[.int .i64 a, .int .i64 b] 39)).alloc (.cells #[.int .i64 a', .int .i64 b'] 39) := ⟨_, rfl⟩
  have hza : (w.alloc (.cells #[.int .i64 a, .int .i64 b] 39)).heap.size = w.heap.size + 1 := by simp
  have hb0 : Below w.heap.size w W0 := by rw [hW0]; exact ((Below.refl w.heap.size w).alloc (Nat.le_refl _) _).alloc (by simp) _
  have x0 : W0.cell? ⟨w.heap.size, 0, none⟩ = some (.int .i64 a) := by rw [hW0, World.cell?_alloc_lt _ _ _ (by rw [hza]; show w.heap.size < _; omega), World.cell?_alloc_new]; rfl
  have x1 : W0.cell? ⟨w.heap.size, 1, none⟩ = some (.int .i64 b) := by rw [hW0, World.cell?_alloc_lt _ _ _ (by rw [hza]; show w.heap.size < _; omega), World.cell?_alloc_new]; rfl
  have x2 : W0.cell? ⟨w.heap.size + 1, 0, none⟩ = some (.int .i64 a') := by rw [hW0, ← hza, World.cell?_alloc_new]; rfl
  have x3 : W0.cell? ⟨w.heap.size + 1, 1, none⟩ = some (.int .i64 b') := by rw [hW0, ← hza, World.cell?_alloc_new]; rfl
  have HD := Lib.hid (hdi.below hb0 (Nat.le_refl _))
  have HL := Lib.hid (fun W => Length_any a b W ha hb)
  have HRL := Lib.hid (fun W => rLength_any a b W ha hb)
  have HC := Lib.hid (fun W => Cross_any a b a' b' W)
  have HRC := Lib.hid (fun W => rCross_any a b a' b' W)
  generalize cut62 (lenS (a, b)) = N0 at HL HRL
  generalize (crossS (a, b) (a', b')).1 = X0 at HC HRC
  generalize (crossS (a, b) (a', b')).2 = Y0 at HC HRC
  clear hdi h64 ha hb ha' hb' hza
  by_cases hbig : 60 < D.length
  · have d1 : (60 : Int) < (D.length : Int) := by omega
    clear hbig
    go_enter Try.func7, Try.ntmps7
    go_wp2_with fail
    rw [← hW0]
    refine (awake_any _).mono ?_
    rintro e w1 ⟨rfl, hb1⟩
    clear hW0 x0 x1 x2 x3
    go_wp2
    go_ret
    exact ⟨rfl, hb0.trans (hb1.mono hb0.size)⟩
  have n0 : D.length ≤ 60 := by omega
  have d1 : ¬ (60 : Int) < (D.length : Int) := by omega
  clear hbig
  go_enter Try.func7, Try.ntmps7
  go_wp2_with fail
  rw [← hW0]
  clear hW0
  refine (awake_any _).mono ?_
  rintro e W1 ⟨rfl, hb1⟩
  have y0 := (hb1.cell (World.block_lt_of_cell? _ _ x0)).trans x0
  have y1 := (hb1.cell (World.block_lt_of_cell? _ _ x1)).trans x1
  have y2 := (hb1.cell (World.block_lt_of_cell? _ _ x2)).trans x2
  have y3 := (hb1.cell (World.block_lt_of_cell? _ _ x3)).trans x3
  have hb2 := hb0.trans (hb1.mono hb0.size)
  have HD1 := Lib.hid (HD.out.below hb1 (Nat.le_refl _))
  have HP := Lib.hid (fun W h => Pieces_any a b p cp D W (by omega) h)
  have HRP := Lib.hid (fun W h => rPieces_any a b p cp D W (by omega) h)
  have KP : Hid (∀ w', Below W1.heap.size W1 w' → (w'.cell? ⟨w.heap.size, 0, none⟩ = some (.int .i64 a) ∧ w'.cell? ⟨w.heap.size, 1, none⟩ = some (.int .i64 b) ∧ w'.cell? ⟨w.heap.size + 1, 0, none⟩ = some (.int .i64 a') ∧ w'.cell? ⟨w.heap.size + 1, 1, none⟩ = some (.int .i64 b')) ∧ Below W1.heap.size W1 w') := Lib.hid (fun w' h => ⟨⟨(kp1 y0 h).1, (kp1 y1 h).1, (kp1 y2 h).1, (kp1 y3 h).1⟩, h⟩)
  clear x0 x1 x2 x3 hb0 hb1 HD
  go_wp2
  go_region_held3 (fun w' => (w'.cell? ⟨w.heap.size, 0, none⟩ = some (.int .i64 a) ∧ w'.cell? ⟨w.heap.size, 1, none⟩ = some (.int .i64 b) ∧ w'.cell? ⟨w.heap.size + 1, 0, none⟩ = some (.int .i64 a') ∧ w'.cell? ⟨w.heap.size + 1, 1, none⟩ = some (.int .i64 b')) ∧ Below W1.heap.size W1 w') (first | exact KP.out _ kb_drew | exact KP.out _ (by assumption)) (first | (go_at_call 24; refine (HL.out _).mono ?_; rintro e z1 ⟨rfl, hz1⟩; have hk1 : Below W1.heap.size W1 z1 := kb_call hz1 (by assumption)) | (go_at_call 25; refine (HRL.out _).mono ?_; rintro e z2 ⟨rfl, hz2⟩; have hk2 : Below W1.heap.size W1 z2 := kb_call hz2 (by assumption)) | (go_at_call 26; refine (HC.out _).mono ?_; rintro e z3 ⟨rfl, hz3⟩; have hk3 : Below W1.heap.size W1 z3 := kb_call hz3 (by assumption)) | (go_at_call 27; refine (HRC.out _).mono ?_; rintro e z4 ⟨rfl, hz4⟩; have hk4 : Below W1.heap.size W1 z4 := kb_call hz4 (by assumption)) | (go_at_call 28; refine (HP.out _ (HD1.out.kp (by assumption))).mono ?_; rintro e z5 ⟨K5, q5, c5, rfl, k5, m5, l5, I5, hz5⟩; replace k5 := Lib.hid k5; replace m5 := Lib.hid m5; have hk5 : Below W1.heap.size W1 z5 := kb_call hz5 (by assumption)) | (go_at_call 29; refine (HRP.out _ (HD1.out.kp (by assumption))).mono ?_; rintro e z6 ⟨K6, q6, c6, rfl, k6, m6, l6, I6, hz6⟩; replace k6 := Lib.hid k6; replace m6 := Lib.hid m6; have J5 := SpansIn.below I5 hz6 (Nat.le_refl _); have hk6 : Below W1.heap.size W1 z6 := kb_call hz6 (by assumption)) | (go_at_call 14; refine (SameK J5 I6 (by omega) (pieces_one k5.out m5.out k6.out m6.out)).mono ?_; rintro e z7 ⟨rfl, hz7⟩; have hk7 : Below W1.heap.size W1 z7 := kb_call hz7 (by assumption)))
  go_wp2
  go_ret
  exact ⟨by simp, hb2.trans (Below.mono (by assumption) hb2.size)⟩

end Go.Proofs.Ytefcadngdcgpiaa
