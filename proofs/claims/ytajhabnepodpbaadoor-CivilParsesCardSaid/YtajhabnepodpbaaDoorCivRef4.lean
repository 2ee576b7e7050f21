/-
  What is proved: the contracts of the document's own two and Text of the calendar; what a day's text is parsed to. Conditions: as each says.
-/
import Derived.Test.YtajhabnepodpbaaDoorCivParse
namespace Go.Proofs.YtajhabnepodpbaaDoor
open Go Go.RowKit Go.Proofs

theorem dg_mod {a b : Nat} (h : a % 10 = b % 10) : dg a = dg b := by unfold dg; rw [h]
/-- Two digits. -/
def twoB (x : Int) : List UInt8 := [dg (x.toNat / 10), dg x.toNat]
theorem text_two {y m d : Int} (h : okB y m d = true) : textL y m d = twoB (y / 100) ++ twoB (y % 100) ++ [45] ++ twoB m ++ [45] ++ twoB d := by
  obtain ⟨a, b, c, e, f, g⟩ := okB_iff.1 h
  unfold textL textN twoB
  simp only [List.cons_append, List.nil_append]
  rw [dg_mod (show y.toNat / 1000 % 10 = (y / 100).toNat / 10 % 10 by omega), dg_mod (show y.toNat / 100 % 10 = (y / 100).toNat % 10 by omega), dg_mod (show y.toNat / 10 % 10 = (y % 100).toNat / 10 % 10 by omega), dg_mod (show y.toNat % 10 = (y % 100).toNat % 10 by omega)]

theorem parse_text {y m d : Int} (h : okB y m d = true) : parV (textL y m d) = num y m d ∧ parE (textL y m d) = 0 := by
  obtain ⟨a, b, c, e, f, g⟩ := okB_iff.1 h
  obtain ⟨s1, s2, s3, s4⟩ := ok_small h
  have h1 : isDateB (textL y m d) = true := by
    simp [isDateB, textL, textN, fitsFrom, fitB, isDg, dg_toNat]
    omega
  have h2 : (yS (textL y m d) : Int) = y := by
    simp [yS, textL, textN, readN, dg_toNat]
    omega
  have h3 : (mS (textL y m d) : Int) = m := by
    simp [mS, textL, textN, readN, dg_toNat]
    omega
  have h4 : (dS (textL y m d) : Int) = d := by
    simp [dS, textL, textN, readN, dg_toNat]
    omega
  unfold parV parE
  rw [h1, h2, h3, h4, h]
  simp

theorem twoCells (W : World) (x : Int) (h0 : 0 ≤ x) (h1 : x < 100) : (convert 55 9 (.slice (some ⟨W.heap.size, 0, none⟩) 2 2)).run Tryd.prog (W.alloc (.cells #[.int .u8 (48 + x / 10), .int .u8 (48 + x % 10)] 5)) = .ok (.string ⟨(twoB x).toArray⟩) (W.alloc (.cells #[.int .u8 (48 + x / 10), .int .u8 (48 + x % 10)] 5)) := by
  refine run_convert_bytes_back (P := Tryd.prog) (W.alloc (.cells #[.int .u8 (48 + x / 10), .int .u8 (48 + x % 10)] 5)) 55 9 5 ⟨W.heap.size, 0, none⟩ 2 (twoB x) Tryd.underlying55 Tryd.underlying5 Tryd.underlying9 (fun j hj => ?_)
  have hj' : j < 2 := hj
  rw [addr_add', World.cell?_alloc_new]
  have h : j = 0 ∨ j = 1 := by omega
  rcases h with rfl | rfl
  · simp [twoB, dg_toNat]; omega
  · simp [twoB, dg_toNat]; omega

theorem rtwo_any (x : Int) (h0 : 0 ≤ x) (h1 : x < 100) (w : World) : Calls Tryd.prog 36 #[.int .i64 x] w fun e w' => e = .returned (.string ⟨(twoB x).toArray⟩) ∧ Below w.heap.size w w' := by
  have hcv := twoCells w x h0 h1
  go_enter Tryd.func36, Tryd.ntmps36
  go_wp2
  go_ret
  exact ⟨rfl, (Below.refl _ _).alloc (Nat.le_refl _) _⟩
theorem rtwo3 (x : Int) (h0 : 0 ≤ x) (h1 : x < 100) (g : Nat) (x0 x1 x2 : Value) (w0 w : World) (c0 : w.cell? ⟨g, 0, none⟩ = some x0) (c1 : w.cell? ⟨g, 1, none⟩ = some x1) (c2 : w.cell? ⟨g, 2, none⟩ = some x2) (hb0 : Below w0.heap.size w0 w) :
    Calls Tryd.prog 36 #[.int .i64 x] w fun e w' => e = .returned (.string ⟨(twoB x).toArray⟩) ∧ w'.cell? ⟨g, 0, none⟩ = some x0 ∧ w'.cell? ⟨g, 1, none⟩ = some x1 ∧ w'.cell? ⟨g, 2, none⟩ = some x2 ∧ Below w0.heap.size w0 w' :=
  (rtwo_any x h0 h1 w).mono fun _ _ ⟨h, hb⟩ => by
    have hg : g < w.heap.size := World.block_lt_of_cell? w _ c0
    exact ⟨h, (bcell hb g 0 hg).trans c0, (bcell hb g 1 hg).trans c1, (bcell hb g 2 hg).trans c2, hb0.trans (hb.mono hb0.size)⟩

set_option maxHeartbeats 1000000 in
set_option maxRecDepth 100000 in
theorem rtext_yes (y m d N : Int) (h : okB y m d = true) (hn : num y m d = N) (w : World) : Calls Tryd.prog 26 #[.int .i64 N] w fun e w' => e = .returned (.string ⟨(textL y m d).toArray⟩) ∧ Below w.heap.size w w' := by
  have HT := Lib.hid (rto_yes y m d N h hn w)
  obtain ⟨y1, y2, m1, m2, d1, d2⟩ := okB_iff.1 h
  have hdb := dim_bd y m
  have dd3 : d ≤ 31 := by omega
  have hX := text_two h
  obtain ⟨Q, hQ⟩ : ∃ Q, Q = y / 100 := ⟨_, rfl⟩
  obtain ⟨R, hR⟩ : ∃ R, R = y % 100 := ⟨_, rfl⟩
  rw [← hQ, ← hR] at hX
  have HX := Lib.hid hX
  have q1 : 0 ≤ Q := by omega
  have q2 : Q < 100 := by omega
  have q3 : 0 ≤ R := by omega
  have q4 : R < 100 := by omega
  have t1 : y.tdiv 100 = Q := by rw [Int.tdiv_eq_ediv_of_nonneg (by omega)]; exact hQ.symm
  have t2 : y.tmod 100 = R := by rw [Int.tmod_eq_emod_of_nonneg (by omega)]; exact hR.symm
  have t3 : IntKind.i64.wrap Q = Q := IntWalk.i64_in _ (by omega)
  have t4 : y / 100 = Q := hQ.symm
  have t5 : y % 100 = R := hR.symm
  clear hX hQ hR
  clear h hn hdb d2
  go_enter Tryd.func26, Tryd.ntmps26
  go_wp2_with fail
  refine (HT.out).mono ?_
  rintro e w1 ⟨rfl, hb⟩
  have hB := hb.alloc hb.size (.cells #[.int .i64 y, .int .i64 m, .int .i64 d] 30)
  obtain ⟨c0, c1, c2⟩ := new3 w1 (.int .i64 y) (.int .i64 m) (.int .i64 d) 30
  clear hb
  go_upto_region 2 with fail
  generalize w1.heap.size = g at c0 c1 c2 ⊢
  generalize w1.alloc (.cells #[.int .i64 y, .int .i64 m, .int .i64 d] 30) = W at hB c0 c1 c2 ⊢
  have hd2 : ∀ W : World, Below w.heap.size w W.drew = Below w.heap.size w W := fun W => propext ⟨fun h => ⟨h.os, h.tape, h.output, h.size, h.block⟩, fun h => h.drew⟩
  have q5 : 0 ≤ m := by omega
  have q6 : m < 100 := by omega
  have q7 : 0 ≤ d := by omega
  have q8 : d < 100 := by omega
  have htl : ∀ x, (twoB x).length = 2 := fun _ => rfl
  go_region_held3 (fun w' => w'.cell? ⟨g, 0, none⟩ = some (.int .i64 y) ∧ w'.cell? ⟨g, 1, none⟩ = some (.int .i64 m) ∧ w'.cell? ⟨g, 2, none⟩ = some (.int .i64 d) ∧ Below w.heap.size w w') (go_keep) (first | (go_at_call 36; refine (rtwo3 _ ?_ ?_ g (.int .i64 y) (.int .i64 m) (.int .i64 d) w _ ?_ ?_ ?_ ?_).mono ?_; (first | omega | assumption); (first | omega | assumption); (simp [*]); (simp [*]); (simp [*]); (simp [*]); rintro e w' ⟨rfl, k0, k1, k2, k3⟩))
  go_wp2
  go_ret
  refine ⟨?_, k3⟩
  rw [HX.out]
  show Ending.returned (.string (ByteArray.mk (twoB Q).toArray ++ ByteArray.mk (twoB R).toArray ++ ByteArray.mk #[45] ++ ByteArray.mk (twoB m).toArray ++ ByteArray.mk #[45] ++ ByteArray.mk (twoB d).toArray)) = _
  rw [ByteArray.mk_append_mk, ByteArray.mk_append_mk _ [45], ByteArray.mk_append_mk, ByteArray.mk_append_mk _ [45], ByteArray.mk_append_mk]

end Go.Proofs.YtajhabnepodpbaaDoor
