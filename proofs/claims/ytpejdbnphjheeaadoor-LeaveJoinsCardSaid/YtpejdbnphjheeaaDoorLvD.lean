/-
  What is proved: the contracts of leave.isDay, leave.monthStart, of the closure by which a year's moves are found, and of leave.ofYear. Conditions: as each says.
-/
import Derived.Test.YtpejdbnphjheeaaDoorLvC
namespace Go.Proofs.YtpejdbnphjheeaaDoor
open Go Go.RowKit Go.Proofs Go.Proofs.YtpejdbnphjheeaaDoor.Cv

theorem isDay_any (n : Int) (w : World) : Calls Tryd.prog 29 #[.int .i64 n] w fun e w' => e = .returned (.bool (inB n)) ∧ w' = w := by
  have H := wk_any n
  unfold wkV at H
  cases h : inB n
  · rw [h] at H
    have HI := Lib.hid H
    clear H h
    go_enter Tryd.func29, Tryd.ntmps29
    go_wp2_with (go_at_call 46; refine (HI.out _).mono ?_; rintro e w' ⟨rfl, rfl⟩)
    go_ret
    exact ⟨rfl, rfl⟩
  · obtain ⟨h1, h2⟩ := inB_iff.1 h
    rw [h] at H
    simp only [if_true] at H
    obtain ⟨q, hq⟩ : ∃ q, q = (n + 25567) % 7 := ⟨_, rfl⟩
    rw [← hq] at H
    have q0 : 0 ≤ q := by omega
    have HI := Lib.hid H
    clear H h hq
    go_enter Tryd.func29, Tryd.ntmps29
    go_wp2_with (go_at_call 46; refine (HI.out _).mono ?_; rintro e w' ⟨rfl, rfl⟩)
    go_ret
    exact ⟨rfl, rfl⟩

/-- A month's first day. -/
def mstart (y m : Int) : Int := jan y + cum y m
theorem mstart_ok {y m : Int} (y1 : 1900 ≤ y) (y2 : y ≤ 2199) (m1 : 1 ≤ m) (m2 : m ≤ 12) : okB y m 1 = true ∧ num y m 1 = mstart y m := by
  have := dim_bd y m
  refine ⟨okB_iff.2 ⟨y1, y2, m1, m2, by omega, by omega⟩, ?_⟩
  unfold num mstart; omega
theorem mstart_any (y m : Int) (y1 : 1900 ≤ y) (y2 : y ≤ 2199) (m1 : 1 ≤ m) (m2 : m ≤ 12) (w : World) (hL : Len w) : Calls Tryd.prog 30 #[.int .i64 y, .int .i64 m] w fun e w' => e = .returned (.int .i64 (mstart y m)) ∧ Below w.heap.size w w' := by
  obtain ⟨h1, h2⟩ := mstart_ok y1 y2 m1 m2
  have H := fun W hW => of_yes y m 1 h1 W hW
  rw [h2] at H
  have HI := Lib.hid H
  have HL := Lib.hid hL
  generalize mstart y m = q at HI ⊢
  clear H h1 h2 hL y1 y2 m1 m2
  go_enter Tryd.func30, Tryd.ntmps30
  go_wp2_with fail
  refine (HI.out _ HL.out).mono ?_
  rintro e w' ⟨rfl, hb⟩
  go_wp2
  go_ret
  exact ⟨rfl, hb⟩

theorem mstart_grow (y m : Int) (y1 : 1900 ≤ y) (y2 : y ≤ 2199) (m1 : 1 ≤ m) (m2 : m ≤ 12) (w : World) (hL : Len w) : Calls Tryd.prog 30 #[.int .i64 y, .int .i64 m] w fun e w' => e = .returned (.int .i64 (mstart y m)) ∧ ∃ q os', w' = Go.Sort.grow (w.drewN q) os' := by
  obtain ⟨h1, h2⟩ := mstart_ok y1 y2 m1 m2
  have H := fun W hW => of_grow y m 1 h1 W hW
  rw [h2] at H
  have HI := Lib.hid H
  have HL := Lib.hid hL
  generalize mstart y m = q at HI ⊢
  clear H h1 h2 hL y1 y2 m1 m2
  go_enter Tryd.func30, Tryd.ntmps30
  go_wp2_with fail
  refine (HI.out _ HL.out).mono ?_
  rintro e w' ⟨rfl, hb⟩
  go_wp2
  go_ret
  exact ⟨rfl, hb⟩

/-- The closure by which a year's end is found. -/
theorem toY {n : Int} (h : inB n = true) : ∃ y m d, 1900 ≤ y ∧ y ≤ 2199 ∧ jan y ≤ n ∧ n < jan (y + 1) ∧ ∀ w, Len w → Calls Tryd.prog 19 #[.int .i64 n] w fun e w' => e = .returned (.agg #[.int .i64 y, .int .i64 m, .int .i64 d]) ∧ ∃ q os', w' = Go.Sort.grow (w.drewN q) os' := by
  obtain ⟨h1, h2⟩ := inB_iff.1 h
  obtain ⟨y, m, d, ok, hn⟩ := date_of n h1 h2
  obtain ⟨y1, y2, -⟩ := okB_iff.1 ok
  have hi := num_in ok
  rw [hn] at hi
  exact ⟨y, m, d, y1, y2, hi.1, hi.2.1, fun w hL => to_grow y m d n ok hn w hL⟩
theorem jan_le {a b n : Int} (h1 : jan a ≤ n) (h2 : n < jan (a + 1)) : b < a ↔ jan (b + 1) ≤ n := by
  constructor
  · intro h; have := jan_mono (b + 1) a (by omega); omega
  · intro h
    by_cases c : b < a
    · exact c
    · have := jan_mono (a + 1) (b + 1) (by omega); omega
theorem Len.grown {w : World} (h : Len w) (n : Nat) (os : Array Obj) : Len (Go.Sort.grow (w.drewN n) os) := fun k hk => by
  have hc := h k hk
  rw [Go.Sort.cell?_grow _ _ _ (by exact World.block_lt_of_cell? w _ hc)]
  exact hc
set_option maxHeartbeats 1000000 in
theorem later_any (n g t y : Int) (h : inB n = true) (b : Nat) (w : World) (hL : Len w) (hy : w.cell? ⟨b, 0, none⟩ = some (.int .i64 y)) :
    Calls Tryd.prog 35 #[.agg #[.int .i64 n, .int .i64 g, .int .i64 t], .pointer (some ⟨b, 0, none⟩)] w fun e w' => e = .returned (.bool (decide (jan (y + 1) ≤ n))) ∧ Below w.heap.size w w' := by
  have hbl := World.block_lt_of_cell? w _ hy
  obtain ⟨Y, m, d, -, -, h1, h2, hc⟩ := toY h
  have hd : decide (jan (y + 1) ≤ n) = decide (y < Y) := by rw [decide_eq_decide]; exact (jan_le h1 h2).symm
  rw [hd]
  obtain ⟨w1, hw1⟩ : ∃ w1, w1 = w.alloc (.cells #[.int .i64 n, .int .i64 g, .int .i64 t] 42) := ⟨_, rfl⟩
  have hL1 : Len w1 := by rw [hw1]; exact hL.alloc _
  have HC := Lib.hid hc
  have hb0 : Below w.heap.size w w1 := by rw [hw1]; exact (Below.refl _ _).alloc (Nat.le_refl _) _
  have c0 : w1.cell? ⟨w.heap.size, 0, none⟩ = some (.int .i64 n) := by rw [hw1, World.cell?_alloc_new]; rfl
  have c1 : w1.cell? ⟨b, 0, none⟩ = some (.int .i64 y) := (hb0.cell (p := ⟨b, 0, none⟩) hbl).trans hy
  have k0 := fun q os => Go.cell_grown (by exact World.block_lt_of_cell? w1 _ c0) c0 q os
  have k1 := fun q os => Go.cell_grown (by exact World.block_lt_of_cell? w1 _ c1) c1 q os
  have HL1 := Lib.hid (fun q os => Len.grown hL1 q os)
  have mixed : Tryd.prog.follows .mixedOrders = true := by kernel_rfl
  have fd : ∀ W, (Instr.field 51 (.agg #[.int .i64 Y, .int .i64 m, .int .i64 d]) 0).run Tryd.prog W = .ok (.int .i64 Y) W := fun _ => by kernel_rfl
  clear hd h1 h2 hL h hc hL1
  go_enter Tryd.func35, Tryd.ntmps35
  go_wp2
  rw [← hw1]
  clear hw1 c0 c1 hy
  go_quiet_grown (first | (go_at_call 19; refine Calls.grown_of (HC.out _ (HL1.out _ _))))
  go_wp2
  go_ret
  exact ⟨rfl, hb0.trans ⟨rfl, rfl, rfl, by rw [Go.Sort.size_grow]; exact Nat.le_add_right _ _, fun i hi => Go.Sort.heap_grow_old _ _ (by have := hb0.size; show i < w1.heap.size; omega)⟩⟩

/-- Moves in memory. -/
def MvIn (w : World) (p : Option Addr) (n : Nat) (D G T : Nat → Int) : Prop :=
  n = 0 ∨ ∃ b o, p = some ⟨b, o, none⟩ ∧ ∀ j, j < n → w.cell? ⟨b, o + j * 3, none⟩ = some (.int .i64 (D j)) ∧ w.cell? ⟨b, o + j * 3 + 1, none⟩ = some (.int .i64 (G j)) ∧ w.cell? ⟨b, o + j * 3 + 2, none⟩ = some (.int .i64 (T j))
theorem MvIn.below {w w' : World} {p : Option Addr} {n B : Nat} {D G T : Nat → Int} (h : MvIn w p n D G T) (hb : Below B w w') (hB : w.heap.size ≤ B) : MvIn w' p n D G T := by
  rcases h with h | ⟨b, o, rfl, hc⟩
  · exact .inl h
  · refine .inr ⟨b, o, rfl, fun j hj => ?_⟩
    obtain ⟨h1, h2, h3⟩ := hc j hj
    have hbl : b < B := Nat.lt_of_lt_of_le (World.block_lt_of_cell? w _ h1) hB
    exact ⟨(hb.cell (p := ⟨b, o + j * 3, none⟩) hbl).trans h1, (hb.cell (p := ⟨b, o + j * 3 + 1, none⟩) hbl).trans h2, (hb.cell (p := ⟨b, o + j * 3 + 2, none⟩) hbl).trans h3⟩

/-- How many moves lie ahead of a year's end. -/
def ahead (D : Nat → Int) (E : Int) : Nat → Nat
  | 0 => 0
  | n + 1 => if E ≤ D 0 then 0 else ahead (fun j => D (j + 1)) E n + 1
theorem ahead_le {E : Int} : ∀ (n : Nat) (D : Nat → Int), ahead D E n ≤ n
  | 0, _ => Nat.le_refl _
  | n + 1, D => by unfold ahead; split; omega; have := ahead_le n (fun j => D (j + 1)) (E := E); omega
theorem ahead_lt {E : Int} : ∀ (n : Nat) (D : Nat → Int) (j : Nat), j < ahead D E n → D j < E
  | 0, _, j, h => by simp [ahead] at h
  | n + 1, D, j, h => by
    unfold ahead at h
    split at h
    · omega
    · cases j with
      | zero => omega
      | succ j => exact ahead_lt n (fun j => D (j + 1)) j (by omega)
theorem ahead_ge {E : Int} : ∀ (n : Nat) (D : Nat → Int), ahead D E n < n → E ≤ D (ahead D E n)
  | 0, _, h => by omega
  | n + 1, D, h => by
    unfold ahead at h ⊢
    by_cases c : E ≤ D 0
    · rw [if_pos c]; exact c
    · rw [if_neg c] at h ⊢
      exact ahead_ge n (fun j => D (j + 1)) (by omega)
theorem ahead_is {E : Int} {n k : Nat} {D : Nat → Int} (hk : k ≤ n) (h1 : ∀ j, j < k → D j < E) (h2 : k < n → E ≤ D k) : ahead D E n = k := by
  have a := ahead_le n D (E := E)
  by_cases c : ahead D E n < k
  · have := ahead_ge n D (E := E) (by omega)
    have := h1 _ c
    omega
  · by_cases c2 : k < ahead D E n
    · have := ahead_lt n D (E := E) k c2
      have := h2 (by omega)
      omega
    · omega

/-- Where IndexFunc finds the first move behind a year. -/
def IxPost (D : Nat → Int) (n : Nat) (E : Int) (w : World) (e : Ending) (w' : World) : Prop := e = .returned (.int .i64 (if ahead D E n < n then (ahead D E n : Int) else -1)) ∧ Below w.heap.size w w'
set_option maxHeartbeats 2000000 in
theorem index_any (p : Option Addr) (n cp : Nat) (D G T : Nat → Int) (y : Int) (b : Nat) (w : World) (hn : n ≤ 100000) (hM : MvIn w p n D G T) (hD : ∀ j, j < n → inB (D j) = true) (hL : Len w) (hy : w.cell? ⟨b, 0, none⟩ = some (.int .i64 y)) :
    Calls Tryd.prog 34 #[.slice p n cp, .func (.func 35) #[] #[.pointer (some ⟨b, 0, none⟩)]] w (IxPost D n (jan (y + 1)) w) := by
  have HM := Lib.hid hM
  have HD := Lib.hid hD
  have HL := Lib.hid hL
  have HY := Lib.hid hy
  have hbl := World.block_lt_of_cell? w _ hy
  obtain ⟨E, hE⟩ : ∃ E, jan (y + 1) = E := ⟨_, rfl⟩
  have HC := Lib.hid (fun (n g t : Int) (h : inB n = true) (W : World) (hL : Len W) (hy : W.cell? ⟨b, 0, none⟩ = some (.int .i64 y)) => later_any n g t y h b W hL hy)
  rw [hE] at HC ⊢
  clear hM hD hL hy hE
  go_enter Tryd.func34, Tryd.ntmps34
  go_wp2
  go_loopw [5, 8] (fun _ kv wr => ∃ k : Nat, k ≤ n ∧ kv = .int .i64 k ∧ Hid (∀ j, j < k → D j < E) ∧ Below w.heap.size w wr) (fun _ kv _ => n - (RowKit.intOf kv).toNat)
  case atStart => exact ⟨0, by omega, rfl, Lib.hid (fun j h => by omega), Below.refl _ _⟩
  case round =>
    obtain ⟨k, hk, rfl, HLT, hb⟩ := hrel
    by_cases hlt : k < n
    · rcases HM.out with h | ⟨bb, o, rfl, hc⟩
      · omega
      obtain ⟨c0, c1, c2⟩ := hc k hlt
      have hbb := World.block_lt_of_cell? w _ c0
      have e0 := (hb.cell (p := ⟨bb, o + k * 3, none⟩) hbb).trans c0
      have e1 := (hb.cell (p := ⟨bb, o + k * 3 + 1, none⟩) hbb).trans c1
      have e2 := (hb.cell (p := ⟨bb, o + k * 3 + 2, none⟩) hbb).trans c2
      have HLw := Lib.hid (HL.out.below hb (Nat.le_refl _))
      have HYw := Lib.hid ((hb.cell (p := ⟨b, 0, none⟩) hbl).trans HY.out)
      have HIN := Lib.hid (HD.out k hlt)
      clear c0 c1 c2 hc
      obtain ⟨d, hd⟩ : ∃ d, D k = d := ⟨_, rfl⟩
      rw [hd] at e0 HIN
      have HDk := Lib.hid hd
      clear hd
      generalize G k = gk at e1
      generalize T k = tk at e2
      have hbsz := hb.size
      by_cases hge : E ≤ d
      · have dE : decide (E ≤ d) = true := decide_eq_true hge
        go_wp2_with (go_at_call 35; refine (HC.out d gk tk HIN.out _ HLw.out HYw.out).mono ?_; rintro e w2 ⟨rfl, hb2⟩; rw [dE])
        go_ret
        have ha : ahead D E n = k := ahead_is hk HLT.out (fun _ => by rw [HDk.out]; exact hge)
        exact ⟨by rw [ha, if_pos hlt]; rfl, hb.trans (hb2.mono hbsz)⟩
      · have dE : decide (E ≤ d) = false := decide_eq_false hge
        go_wp2_with (go_at_call 35; refine (HC.out d gk tk HIN.out _ HLw.out HYw.out).mono ?_; rintro e w2 ⟨rfl, hb2⟩; rw [dE])
        exact ⟨⟨k + 1, by omega, by go_num, Lib.hid (fun j hj => by
          by_cases ej : j = k
          · rw [ej, HDk.out]; omega
          · exact HLT.out j (by omega)), hb.trans (hb2.mono hbsz)⟩, by simp [RowKit.intOf]; omega⟩
    · obtain rfl : k = n := by omega
      go_wp2
      go_ret
      have ha : ahead D E k = k := ahead_is (Nat.le_refl _) HLT.out (fun h => by omega)
      exact ⟨by rw [ha, if_neg (by omega)]; rfl, hb⟩

/-- The moves that are of a year: those ahead of its end. -/
def OfPost (p : Option Addr) (k : Nat) (w : World) (e : Ending) (w' : World) : Prop := ∃ cp', e = .returned (.slice p k cp') ∧ Below w.heap.size w w'
set_option maxHeartbeats 1000000 in
theorem ofYear_any (p : Option Addr) (n cp : Nat) (D G T : Nat → Int) (y : Int) (w : World) (hn : n ≤ 100000) (hcp : n ≤ cp) (hM : MvIn w p n D G T) (hD : ∀ j, j < n → inB (D j) = true) (hL : Len w) :
    Calls Tryd.prog 20 #[.slice p n cp, .int .i64 y] w (OfPost p (ahead D (jan (y + 1)) n) w) := by
  obtain ⟨w1, hw1⟩ : ∃ w1, w1 = w.alloc (.cells #[.int .i64 y] 3) := ⟨_, rfl⟩
  have hb0 : Below w.heap.size w w1 := by rw [hw1]; exact (Below.refl _ _).alloc (Nat.le_refl _) _
  have hbs := hb0.size
  have HI := Lib.hid (index_any p n cp D G T y w.heap.size w1 hn (hM.below hb0 (Nat.le_refl _)) hD (by rw [hw1]; exact hL.alloc _) (by rw [hw1, World.cell?_alloc_new]; rfl))
  obtain ⟨K, hK⟩ : ∃ K, ahead D (jan (y + 1)) n = K := ⟨_, rfl⟩
  have hKn : K ≤ n := by rw [← hK]; exact ahead_le _ _
  rw [hw1] at HI
  unfold IxPost at HI
  rw [hK] at HI ⊢
  clear hK hM hD hL
  by_cases hlt : K < n
  · rw [if_pos hlt] at HI
    go_enter Tryd.func20, Tryd.ntmps20
    go_wp2_with fail
    refine (HI.out).mono ?_
    rintro e w2 ⟨rfl, hb⟩
    rw [← hw1] at hb
    have i1 : (K : Int) ≤ (cp : Int) := by omega
    go_wp2
    go_ret
    exact ⟨_, rfl, hb0.trans (hb.mono hbs)⟩
  · rw [if_neg hlt] at HI
    obtain rfl : K = n := by omega
    go_enter Tryd.func20, Tryd.ntmps20
    go_wp2_with fail
    refine (HI.out).mono ?_
    rintro e w2 ⟨rfl, hb⟩
    rw [← hw1] at hb
    go_wp2
    go_ret
    exact ⟨_, rfl, hb0.trans (hb.mono hbs)⟩

end Go.Proofs.YtpejdbnphjheeaaDoor
