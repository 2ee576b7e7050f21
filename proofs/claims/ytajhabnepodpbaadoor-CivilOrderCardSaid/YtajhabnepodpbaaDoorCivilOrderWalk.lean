/-
  What is proved: the walk of the statement CivilOrder: the call returns true. Conditions: the table of months' lengths reads as its text lays it.
-/
import Derived.Test.YtajhabnepodpbaaDoorCivWalk
namespace Go.Proofs.YtajhabnepodpbaaDoor
open Go Go.RowKit Go.Proofs
set_option linter.unusedVariables false

theorem toList_mk (l : List UInt8) : (ByteArray.mk l.toArray).toList = l := by rw [ByteArray.toList_eq]

set_option maxHeartbeats 1000000 in
set_option maxRecDepth 100000 in
theorem walkCivilOrder (a b : Int) (w : World) (w0 : (Lit.int .u32 a).wf = true) (w1 : (Lit.int .u32 b).wf = true) (hL : Len w) :
    Calls Tryd.prog 10 #[.int .u32 a, .int .u32 b] w fun e w' => e = .returned (.bool true) ∧ Below w.heap.size w w' := by
  obtain ⟨a1, a2⟩ := bounds_u32 w0
  obtain ⟨b1, b2⟩ := bounds_u32 w1
  obtain ⟨X, hX⟩ : ∃ N, N = -25567 + a % 109566 := ⟨_, rfl⟩
  obtain ⟨Y, hY⟩ : ∃ N, N = -25567 + b % 109566 := ⟨_, rfl⟩
  have x1 : -25567 ≤ X := by omega
  have x2 : X ≤ 83998 := by omega
  have y1 : -25567 ≤ Y := by omega
  have y2 : Y ≤ 83998 := by omega
  obtain ⟨xy, xm, xd, xok, xnum⟩ := date_of X x1 (by omega)
  obtain ⟨yy, ym, yd, yok, ynum⟩ := date_of Y y1 (by omega)
  have e0 : -25567 + a % 109566 = X := hX.symm
  have e1 : -25567 + b % 109566 = Y := hY.symm
  have HT := text_yes xy xm xd X xok xnum
  have HU := text_yes yy ym yd Y yok ynum
  have o1 := text_order xok yok
  have o2 := text_same xok yok
  rw [xnum, ynum] at o1 o2
  generalize textL xy xm xd = S at HT o1 o2
  generalize textL yy ym yd = T at HU o1 o2
  have p1 : Op.bytesLess (ByteArray.mk S.toArray).toList (ByteArray.mk T.toArray).toList = decide (X < Y) := by rw [toList_mk, toList_mk]; exact o1
  have p2 : ((ByteArray.mk S.toArray).toList == (ByteArray.mk T.toArray).toList) = decide (X = Y) := by rw [toList_mk, toList_mk]; exact o2
  generalize ByteArray.mk S.toArray = s at HT p1 p2
  generalize ByteArray.mk T.toArray = t at HU p1 p2
  have HT := Lib.hid HT
  have HU := Lib.hid HU
  have HK0 := wk_any X
  have HK1 := wk_any (X + 7)
  rw [wk_week X x1 (by omega)] at HK1
  have hk := wk_bd X x1 (by omega)
  generalize wkV X = k at hk HK0 HK1
  have HW0 := Lib.hid HK0
  have HW1 := Lib.hid HK1
  clear HK0 HK1 hX hY w0 w1 xok yok xnum ynum o1 o2
  have p3 : (decide (X < Y) == decide (X < Y)) = true := by simp
  have p4 : (decide (X = Y) == (X == Y)) = true := by cases h : decide (X = Y) <;> simp_all
  go_enter Tryd.func10, Tryd.ntmps10
  go_wp2_with fail
  refine (HT.out _ hL).mono ?_
  rintro e w1 ⟨rfl, hb1⟩
  have hL1 := hL.below hb1 (Nat.le_refl _)
  go_wp2_with fail
  refine (HU.out _ hL1).mono ?_
  rintro e w2 ⟨rfl, hb2⟩
  have hL2 := hL1.below hb2 (Nat.le_refl _)
  have hb12 := hb1.trans (hb2.mono hb1.size)
  clear hb1 hb2 hL1
  go_wp2_with fail
  refine (HW1.out _).mono ?_
  rintro e w' ⟨rfl, rfl⟩
  go_wp2_with fail
  refine (HW0.out _).mono ?_
  rintro e w' ⟨rfl, rfl⟩
  go_wp2_with fail
  refine (awake_on hL hb12 (Nat.le_refl _) hb12.size).mono ?_
  rintro e w4 ⟨rfl, hb4⟩
  go_wp2
  go_ret
  exact ⟨rfl, hb4⟩

end Go.Proofs.YtajhabnepodpbaaDoor
