/-
  What is proved: the contract of civil.Parse. Conditions: the table of months' lengths reads as its text lays it.
-/
import Derived.Test.YtajhabnepodpbaaDoorCivE
namespace Go.Proofs.YtajhabnepodpbaaDoor
open Go Go.RowKit Go.Proofs

def yS (l : List UInt8) : Nat := readN 0 (l.take 4)
def mS (l : List UInt8) : Nat := readN 0 ((l.drop 5).take 2)
def dS (l : List UInt8) : Nat := readN 0 (l.drop 8)
/-- What a text is parsed to. -/
def parV (l : List UInt8) : Int := if isDateB l = true ∧ okB (yS l) (mS l) (dS l) = true then num (yS l) (mS l) (dS l) else 0
def parE (l : List UInt8) : Int := if isDateB l = true then (if okB (yS l) (mS l) (dS l) = true then 0 else 15) else 3

theorem ten_list {l : List UInt8} (h : l.length = 10) : ∃ a b c d e f g i j k, l = [a, b, c, d, e, f, g, i, j, k] := by
  match l, h with
  | [a, b, c, d, e, f, g, i, j, k], _ => exact ⟨a, b, c, d, e, f, g, i, j, k, rfl⟩
theorem date_digs {l : List UInt8} (h : isDateB l = true) : l.length = 10 ∧ (∀ b ∈ l.take 4, isDg b = true) ∧ (∀ b ∈ (l.drop 5).take 2, isDg b = true) ∧ (∀ b ∈ l.drop 8, isDg b = true) := by
  simp only [isDateB, Bool.and_eq_true, decide_eq_true_eq] at h
  obtain ⟨hl, hf⟩ := h
  obtain ⟨a, b, c, d, e, f, g, i, j, k, rfl⟩ := ten_list hl
  simp [fitsFrom, fitB] at hf
  simp
  grind

theorem ext_list (s : ByteArray) (a b : Nat) : (s.extract a b).data.toList = (s.data.toList.drop a).take (b - a) := by
  rw [ByteArray.data_extract, Array.toList_extract, List.extract_eq_take_drop]

theorem of_any (y m d : Int) (w : World) (hL : Len w) : Calls Tryd.prog 12 #[.agg #[.int .i64 y, .int .i64 m, .int .i64 d]] w fun e w' => e = .returned (.tuple #[.int .i64 (if okB y m d = true then num y m d else 0), .int .i64 (if okB y m d = true then 0 else 15)]) ∧ Len w' ∧ Below w.heap.size w w' := by
  cases h : okB y m d with
  | true => exact (of_yes y m d h w hL).mono fun _ _ ⟨a, b⟩ => ⟨a, hL.below b (Nat.le_refl _), b⟩
  | false => exact (of_no y m d h w hL).mono fun _ _ ⟨a, b⟩ => ⟨a, hL.below b (Nat.le_refl _), b⟩

theorem of_any2 (w0 : World) (y m d : Int) (w : World) (hL : Len w) (hb : Below w0.heap.size w0 w) : Calls Tryd.prog 12 #[.agg #[.int .i64 y, .int .i64 m, .int .i64 d]] w fun e w' => e = .returned (.tuple #[.int .i64 (if okB y m d = true then num y m d else 0), .int .i64 (if okB y m d = true then 0 else 15)]) ∧ Len w' ∧ Below w0.heap.size w0 w' :=
  (of_any y m d w hL).mono fun _ _ ⟨a, b, c⟩ => ⟨a, b, hb.trans (c.mono hb.size)⟩

set_option maxHeartbeats 1000000 in
theorem parse_any (s : ByteArray) (w : World) (hL : Len w) : Calls Tryd.prog 25 #[.string s] w fun e w' => e = .returned (.tuple #[.int .i64 (parV s.data.toList), .int .i64 (parE s.data.toList)]) ∧ Below w.heap.size w w' := by
  have HI := isDate_any s
  unfold parV parE
  cases hd : isDateB s.data.toList with
  | false =>
    rw [hd] at HI
    have HI := Lib.hid HI
    simp only [Bool.false_eq_true, false_and, if_false]
    clear hd
    go_enter Tryd.func25, Tryd.ntmps25
    go_wp2_with fail
    refine (HI.out _).mono ?_
    rintro e w1 ⟨rfl, n, rfl⟩
    go_wp2
    go_ret2
    exact ⟨rfl, below_drewN (Below.refl _ _) _⟩
  | true =>
    rw [hd] at HI
    have HI := Lib.hid HI
    obtain ⟨hl, g1, g2, g3⟩ := date_digs hd
    have hsz : s.size = 10 := by rw [Array.length_toList] at hl; exact hl
    simp only [true_and, if_true]
    have HY := Lib.hid (fun W => read_any (s.extract 0 4) W (by simp [hsz]) (by rw [ext_list]; exact g1))
    have HM := Lib.hid (fun W => read_any (s.extract 5 7) W (by simp [hsz]) (by rw [ext_list]; exact g2))
    have HD := Lib.hid (fun W => read_any (s.extract 8 10) W (by simp [hsz]) (by rw [ext_list, List.take_of_length_le (by simp [hl])]; exact g3))
    have ey : readN 0 (s.extract 0 4).data.toList = yS s.data.toList := by rw [ext_list]; rfl
    have em : readN 0 (s.extract 5 7).data.toList = mS s.data.toList := by rw [ext_list]; rfl
    have ed : readN 0 (s.extract 8 10).data.toList = dS s.data.toList := by rw [ext_list, List.take_of_length_le (by simp [hl])]; rfl
    rw [ey] at HY
    rw [em] at HM
    rw [ed] at HD
    generalize yS s.data.toList = y at HY ⊢
    generalize mS s.data.toList = m at HM ⊢
    generalize dS s.data.toList = d at HD ⊢
    have HO := of_any2 w y m d
    generalize (if okB y m d = true then num y m d else 0) = V at HO ⊢
    generalize (if okB y m d = true then (0 : Int) else 15) = E at HO ⊢
    have HO := Lib.hid HO
    clear hd g1 g2 g3 ey em ed hl
    go_enter Tryd.func25, Tryd.ntmps25
    go_wp2_with fail
    refine (HI.out _).mono ?_
    rintro e w1 ⟨rfl, n, rfl⟩
    have hLn : Len (w.drewN n) := hL
    have hBn : Below w.heap.size w (w.drewN n) := below_drewN (Below.refl _ _) n
    generalize w.drewN n = W at hLn hBn ⊢
    have hd1 : ∀ W : World, Len W.drew = Len W := fun _ => rfl
    have hd2 : ∀ W : World, Below w.heap.size w W.drew = Below w.heap.size w W := fun W => propext ⟨fun h => ⟨h.os, h.tape, h.output, h.size, h.block⟩, fun h => h.drew⟩
    go_upto_region 3 with fail
    go_region_held3 (fun w' => Len w' ∧ Below w.heap.size w w') (go_keep) (first | (go_at_call_of 35 (Value.string (s.extract 0 4)); refine (HY.out _).mono ?_; rintro e w' ⟨rfl, rfl⟩) | (go_at_call_of 35 (Value.string (s.extract 5 7)); refine (HM.out _).mono ?_; rintro e w' ⟨rfl, rfl⟩) | (go_at_call_of 35 (Value.string (s.extract 8 10)); refine (HD.out _).mono ?_; rintro e w' ⟨rfl, rfl⟩) | (go_at_call 12; refine (HO.out _ ?_ ?_).mono ?_; (simp [*]); (simp [*]); rintro e w' ⟨rfl, k1, k2⟩))
    go_wp2
    go_ret2
    exact ⟨rfl, k2⟩

end Go.Proofs.YtajhabnepodpbaaDoor
