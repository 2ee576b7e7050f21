/-
  What is proved: the contracts of civil.write and civil.Text. Conditions: the table of months' lengths reads as its text lays it.
-/
import Derived.Test.YtajhabnepodpbaaDoorCivC
import Derived.Laws.IdiomStrings
import Derived.Lib.UnsafeStr
import Derived.Lib.SlBytesConst
namespace Go.Proofs.YtajhabnepodpbaaDoor
open Go Go.RowKit Go.Proofs

/-- Ten bytes lie in block g, and may be written. -/
def Ten (w : World) (g : Nat) (f : Nat → Nat) : Prop := ∀ j, j < 10 → w.cell? ⟨g, j, none⟩ = some (.int .u8 (f j : Int)) ∧ w.frozen? ⟨g, j, none⟩ = false
def putT (f : Nat → Nat) (p v : Nat) : Nat → Nat := fun j => if j = p then v else f j
theorem Ten.store {w : World} {g : Nat} {f : Nat → Nat} (h : Ten w g f) (p v : Nat) (hp : p < 10) : Ten (w.setCell ⟨g, p, none⟩ (.int .u8 v)) g (putT f p v) := by
  intro j hj
  refine ⟨?_, ?_⟩
  · unfold putT
    by_cases e : j = p
    · subst e
      rw [if_pos rfl]
      exact World.cell?_setCell_same w _ _ (h j hj).1
    · rw [if_neg e, World.cell?_setCell_other w _ _ _ (by intro h; injection h; omega)]
      exact (h j hj).1
  · rw [World.frozen?_setCell]; exact (h j hj).2
theorem Ten.below {B : Nat} {w w' : World} {g : Nat} {f : Nat → Nat} (h : Ten w g f) (hb : Below B w w') (hg : g < B) : Ten w' g f := fun j hj =>
  ⟨(hb.cell (p := ⟨g, j, none⟩) hg).trans (h j hj).1, (hb.frozen (p := ⟨g, j, none⟩) hg).trans (h j hj).2⟩

/-- The last digits of a number, put from the right, down to the k-th place. -/
def wrF (f : Nat → Nat) (off len n k : Nat) : Nat → Nat := fun j => if off + k ≤ j ∧ j < off + len then 48 + n / 10 ^ (off + len - 1 - j) % 10 else f j
theorem wrF_start (f : Nat → Nat) (off len n : Nat) : wrF f off len n len = f := by funext j; unfold wrF; rw [if_neg (by omega)]
theorem wrF_step (f : Nat → Nat) (off len n k : Nat) (h : k < len) : putT (wrF f off len n (k + 1)) (off + k) (48 + n / 10 ^ (len - (k + 1)) % 10) = wrF f off len n k := by
  funext j; unfold putT wrF
  by_cases e : j = off + k
  · subst e
    rw [if_pos rfl, if_pos (by omega), show off + len - 1 - (off + k) = len - (k + 1) by omega]
  · rw [if_neg e]
    by_cases c : off + (k + 1) ≤ j ∧ j < off + len
    · rw [if_pos c, if_pos (by omega)]
    · rw [if_neg c, if_neg (by omega)]

set_option maxHeartbeats 1000000 in
theorem write_any (g off len cap n : Nat) (f : Nat → Nat) (hn : n < 10000) (hl : off + len ≤ 10) (w : World) (hT : Ten w g f) :
    Calls Tryd.prog 33 #[.slice (some ⟨g, off, none⟩) len cap, .int .i64 n] w fun e w' => e = .returned (.tuple #[]) ∧ Ten w' g (wrF f off len n 0) ∧ Below g w w' := by
  have HT := Lib.hid hT
  clear hT
  go_enter Tryd.func33, Tryd.ntmps33
  go_wp2
  go_loopw [1, 4] (fun nv iv wr => ∃ k x : Nat, k ≤ len ∧ x < 10000 ∧ iv = .int .i64 ((k : Int) - 1) ∧ nv = .int .i64 x ∧ Hid (x = n / 10 ^ (len - k)) ∧ Hid (Ten wr g (wrF f off len n k)) ∧ Below g w wr) (fun _ iv _ => (RowKit.intOf iv + 1).toNat)
  case atStart => exact ⟨len, n, by omega, hn, rfl, rfl, Lib.hid (by simp), Lib.hid (by rw [wrF_start]; exact HT.out), Below.refl _ _⟩
  case round =>
    obtain ⟨k, x, hk, hx, rfl, rfl, HX, HR, hb⟩ := hrel
    by_cases hk0 : k = 0
    · subst hk0
      go_wp2
      go_end0
      exact ⟨rfl, HR.out, hb⟩
    · obtain ⟨q, rfl⟩ : ∃ q, k = q + 1 := ⟨k - 1, by omega⟩
      rw [show (((q + 1 : Nat) : Int) - 1) = (q : Int) by omega]
      have hc := (HR.out (off + q) (by omega)).1
      have hf := (HR.out (off + q) (by omega)).2
      generalize wrF f off len n (q + 1) (off + q) = old at hc
      obtain ⟨v, hv⟩ : ∃ v : Nat, v = 48 + x % 10 := ⟨_, rfl⟩
      obtain ⟨x2, hx2⟩ : ∃ x2 : Nat, x2 = x / 10 := ⟨_, rfl⟩
      have e1 : (48 : Int) + (x : Int) % 10 = (v : Int) := by omega
      have e2 : (x : Int) / 10 = (x2 : Int) := by omega
      have hv2 : v < 58 := by omega
      have HS : Hid (Ten (wr.setCell ⟨g, off + q, none⟩ (.int .u8 v)) g (wrF f off len n q)) := Lib.hid (by
        rw [← wrF_step f off len n q (by omega), ← HX.out, ← hv]
        exact HR.out.store (off + q) v (by omega))
      have HX2 : Hid (x2 = n / 10 ^ (len - q)) := Lib.hid (by
        rw [hx2, HX.out, Nat.div_div_eq_div_mul, ← Nat.pow_succ, show (len - (q + 1)).succ = len - q by omega])
      have hx3 : x2 < 10000 := by omega
      clear hv hx2 HX HR HT
      go_wp2
      refine ⟨⟨q, x2, by omega, hx3, by simp, rfl, HX2, HS, hb.setCell (Nat.le_refl _) _⟩, by simp [RowKit.intOf]⟩

theorem text_no (N : Int) (h : inB N = false) (w : World) : Calls Tryd.prog 20 #[.int .i64 N] w fun e w' => e = .returned (.string ⟨#[]⟩) ∧ Below w.heap.size w w' := by
  have HT := Lib.hid (to_no N h w)
  clear h
  go_enter Tryd.func20, Tryd.ntmps20
  go_wp2_with fail
  refine (HT.out).mono ?_
  rintro e w1 ⟨rfl, hb⟩
  go_wp2
  go_ret
  exact ⟨rfl, hb.alloc hb.size _⟩

/-- The pattern's bytes. -/
def patF : Nat → Nat := fun j => if j = 4 ∨ j = 7 then 45 else 48
def patC : Array Value := #[.int .u8 48, .int .u8 48, .int .u8 48, .int .u8 48, .int .u8 45, .int .u8 48, .int .u8 48, .int .u8 45, .int .u8 48, .int .u8 48]
theorem ten_new (w : World) (t : TypeId) : Ten (w.alloc (.cells patC t (10, 11))) w.heap.size patF := fun j hj => by
  refine ⟨?_, ?_⟩
  · rw [World.cell?_alloc_mark]
    have h : j = 0 ∨ j = 1 ∨ j = 2 ∨ j = 3 ∨ j = 4 ∨ j = 5 ∨ j = 6 ∨ j = 7 ∨ j = 8 ∨ j = 9 := by omega
    rcases h with rfl | rfl | rfl | rfl | rfl | rfl | rfl | rfl | rfl | rfl <;> rfl
  · rw [World.frozen?_alloc_mark]
    simp; omega

/-- What is known while a text is written. -/
def St (w : World) (g : Nat) (W : World) (f : Nat → Nat) (Y M D : Nat) : Prop := Ten W (g + 1) f ∧ W.cell? ⟨g, 0, none⟩ = some (.int .i64 (Y : Int)) ∧ W.cell? ⟨g, 1, none⟩ = some (.int .i64 (M : Int)) ∧ W.cell? ⟨g, 2, none⟩ = some (.int .i64 (D : Int)) ∧ Below w.heap.size w W ∧ w.heap.size ≤ g
theorem St.drew {w : World} {g : Nat} {W : World} {f : Nat → Nat} {Y M D : Nat} (h : St w g W f Y M D) : St w g W.drew f Y M D := ⟨h.1, h.2.1, h.2.2.1, h.2.2.2.1, h.2.2.2.2.1.drew, h.2.2.2.2.2⟩
theorem St.next {w : World} {g : Nat} {W W' : World} {f f' : Nat → Nat} {Y M D : Nat} (h : St w g W f Y M D) (hT : Ten W' (g + 1) f') (hb : Below (g + 1) W W') : St w g W' f' Y M D := by
  have hg := h.2.2.2.2.2
  exact ⟨hT, (hb.cell (p := ⟨g, 0, none⟩) (Nat.lt_succ_self g)).trans h.2.1, (hb.cell (p := ⟨g, 1, none⟩) (Nat.lt_succ_self g)).trans h.2.2.1, (hb.cell (p := ⟨g, 2, none⟩) (Nat.lt_succ_self g)).trans h.2.2.2.1, h.2.2.2.2.1.trans (hb.mono (by omega)), hg⟩
theorem addr_add' (g j : Nat) : (⟨g, 0, none⟩ : Addr).add j = ⟨g, j, none⟩ := by unfold Addr.add; split <;> simp_all
theorem text_at (Y M D j : Nat) (hj : j < 10) : (some (Value.int .u8 ((wrF (wrF (wrF patF 0 4 Y 0) 5 2 M 0) 8 2 D 0 j : Nat) : Int))) = some (.int .u8 (((textN Y M D)[j]'hj).toNat : Int)) := by
  have h : j = 0 ∨ j = 1 ∨ j = 2 ∨ j = 3 ∨ j = 4 ∨ j = 5 ∨ j = 6 ∨ j = 7 ∨ j = 8 ∨ j = 9 := by omega
  rcases h with rfl | rfl | rfl | rfl | rfl | rfl | rfl | rfl | rfl | rfl <;> simp [wrF, patF, textN, dg_toNat]

set_option maxHeartbeats 1000000 in
theorem text_yes (y m d N : Int) (h : okB y m d = true) (hn : num y m d = N) (w : World) (hL : Len w) : Calls Tryd.prog 20 #[.int .i64 N] w fun e w' => e = .returned (.string ⟨(textL y m d).toArray⟩) ∧ Below w.heap.size w w' := by
  have HT := Lib.hid (to_yes y m d N h hn w hL)
  obtain ⟨y1, y2, m1, m2, d1, d2⟩ := okB_iff.1 h
  have hdb := dim_bd y m
  have dd3 : d ≤ 31 := by omega
  have ey : (y == 0) = false := by rw [beq_eq_false_iff_ne]; omega
  obtain ⟨Y, rfl⟩ := Int.eq_ofNat_of_zero_le (show 0 ≤ y by omega)
  obtain ⟨M, rfl⟩ := Int.eq_ofNat_of_zero_le (show 0 ≤ m by omega)
  obtain ⟨D, rfl⟩ := Int.eq_ofNat_of_zero_le (show 0 ≤ d by omega)
  have b1 : Y < 10000 := by omega
  have b2 : M < 10000 := by omega
  have b3 : D < 10000 := by omega
  clear h hn y1 y2 m1 m2 d1 d2 hdb dd3
  go_enter Tryd.func20, Tryd.ntmps20
  go_wp2_with fail
  refine (HT.out).mono ?_
  rintro e w1 ⟨rfl, hb⟩
  have hcv := Lib.run_convert_bytes_const (P := Tryd.prog) (w1.alloc (.cells #[.int .i64 (Y : Int), .int .i64 (M : Int), .int .i64 (D : Int)] 23)) 55 5 patC 10 10 Tryd.underlying55 Tryd.underlying5
  rw [show (w1.alloc (.cells #[.int .i64 (Y : Int), .int .i64 (M : Int), .int .i64 (D : Int)] 23)).heap.size = w1.heap.size + 1 by simp, show patC.size = 10 from rfl] at hcv
  unfold patC at hcv
  obtain ⟨c0, c1, c2⟩ := new3 w1 (.int .i64 (Y : Int)) (.int .i64 (M : Int)) (.int .i64 (D : Int)) 23
  have hT := ten_new (w1.alloc (.cells #[.int .i64 (Y : Int), .int .i64 (M : Int), .int .i64 (D : Int)] 23)) 5
  rw [show (w1.alloc (.cells #[.int .i64 (Y : Int), .int .i64 (M : Int), .int .i64 (D : Int)] 23)).heap.size = w1.heap.size + 1 by simp] at hT
  have HTn := Lib.hid hT
  clear hT
  go_upto_region 5 with fail
  have HS0 : Hid (St w w1.heap.size ((w1.alloc (.cells #[.int .i64 (Y : Int), .int .i64 (M : Int), .int .i64 (D : Int)] 23)).alloc (.cells #[.int .u8 48, .int .u8 48, .int .u8 48, .int .u8 48, .int .u8 45, .int .u8 48, .int .u8 48, .int .u8 45, .int .u8 48, .int .u8 48] 5 (10, 11))) patF Y M D) := Lib.hid ⟨HTn.out, (World.cell?_alloc_lt _ _ _ (by simp)).trans c0, (World.cell?_alloc_lt _ _ _ (by simp)).trans c1, (World.cell?_alloc_lt _ _ _ (by simp)).trans c2, (hb.alloc hb.size _).alloc (by simp; have := hb.size; omega) _, hb.size⟩
  clear HTn c0 c1 c2 hcv hb HT hL
  generalize w1.heap.size = g at HS0 ⊢
  generalize ((w1.alloc (.cells #[.int .i64 (Y : Int), .int .i64 (M : Int), .int .i64 (D : Int)] 23)).alloc (.cells #[.int .u8 48, .int .u8 48, .int .u8 48, .int .u8 48, .int .u8 45, .int .u8 48, .int .u8 48, .int .u8 45, .int .u8 48, .int .u8 48] 5 (10, 11))) = W0 at HS0 ⊢
  skip
  refine wp_region_still_tail 4 (by kernel_rfl) (by kernel_rfl) ?_
  change wpStill _ _ W0.drew (fun a' => wpList _ _ _ _ a' W0.drew) _ _
  have HS0d : Hid (St w g W0.drew patF Y M D) := Lib.hid HS0.out.drew
  generalize W0.drew = W0d at HS0d ⊢
  have c00 := HS0d.out.2.1
  have c01 := HS0d.out.2.2.1
  have c02 := HS0d.out.2.2.2.1
  simp only [List.take_succ_cons, List.take_zero, List.drop_succ_cons, List.drop_zero]
  still_step
  still_step
  still_step
  still_step
  refine wpStill_nil ?_
  go_wp2_with fail
  refine (write_any (g + 1) 0 4 10 Y patF (by omega) (by omega) _ HS0d.out.1).mono ?_
  rintro e W1 ⟨rfl, hT0, hbb0⟩
  have HS1 : Hid (St w g W1 (wrF patF 0 4 Y 0) Y M D) := Lib.hid (HS0d.out.next hT0 hbb0)
  clear HS0 HS0d c00 c01 c02 hT0 hbb0
  go_upto_region 6 with fail
  refine wp_region_still_tail 4 (by kernel_rfl) (by kernel_rfl) ?_
  change wpStill _ _ W1.drew (fun a' => wpList _ _ _ _ a' W1.drew) _ _
  have HS1d : Hid (St w g W1.drew (wrF patF 0 4 Y 0) Y M D) := Lib.hid HS1.out.drew
  generalize W1.drew = W1d at HS1d ⊢
  have c10 := HS1d.out.2.1
  have c11 := HS1d.out.2.2.1
  have c12 := HS1d.out.2.2.2.1
  simp only [List.take_succ_cons, List.take_zero, List.drop_succ_cons, List.drop_zero]
  still_step
  still_step
  still_step
  still_step
  refine wpStill_nil ?_
  go_wp2_with fail
  refine (write_any (g + 1) 5 2 5 M (wrF patF 0 4 Y 0) (by omega) (by omega) _ HS1d.out.1).mono ?_
  rintro e W2 ⟨rfl, hT1, hbb1⟩
  have HS2 : Hid (St w g W2 (wrF (wrF patF 0 4 Y 0) 5 2 M 0) Y M D) := Lib.hid (HS1d.out.next hT1 hbb1)
  clear HS1 HS1d c10 c11 c12 hT1 hbb1
  go_upto_region 7 with fail
  refine wp_region_still_tail 4 (by kernel_rfl) (by kernel_rfl) ?_
  change wpStill _ _ W2.drew (fun a' => wpList _ _ _ _ a' W2.drew) _ _
  have HS2d : Hid (St w g W2.drew (wrF (wrF patF 0 4 Y 0) 5 2 M 0) Y M D) := Lib.hid HS2.out.drew
  generalize W2.drew = W2d at HS2d ⊢
  have c20 := HS2d.out.2.1
  have c21 := HS2d.out.2.2.1
  have c22 := HS2d.out.2.2.2.1
  simp only [List.take_succ_cons, List.take_zero, List.drop_succ_cons, List.drop_zero]
  still_step
  still_step
  still_step
  still_step
  refine wpStill_nil ?_
  go_wp2_with fail
  refine (write_any (g + 1) 8 2 2 D (wrF (wrF patF 0 4 Y 0) 5 2 M 0) (by omega) (by omega) _ HS2d.out.1).mono ?_
  rintro e W3 ⟨rfl, hT2, hbb2⟩
  have HS3 : Hid (St w g W3 (wrF (wrF (wrF patF 0 4 Y 0) 5 2 M 0) 8 2 D 0) Y M D) := Lib.hid (HS2d.out.next hT2 hbb2)
  clear HS2 HS2d c20 c21 c22 hT2 hbb2
  have hcb : (convert 55 9 (.slice (some ⟨g + 1, 0, none⟩) 10 10)).run Tryd.prog W3 = .ok (.string ⟨(textN Y M D).toArray⟩) W3 :=
    run_convert_bytes_back (P := Tryd.prog) W3 55 9 5 ⟨g + 1, 0, none⟩ 10 (textN Y M D) Tryd.underlying55 Tryd.underlying5 Tryd.underlying9 (fun j hj => by
      have hj' : j < 10 := hj
      rw [addr_add']; exact (HS3.out.1 j hj').1.trans (text_at Y M D j hj'))
  go_wp2
  go_ret
  exact ⟨rfl, HS3.out.2.2.2.2.1⟩

end Go.Proofs.YtajhabnepodpbaaDoor
