/-
  What is proved: the contract of share.Items. Conditions: items and weights lie in memory as the contract says.
-/
import Derived.Test.YtkhjlpjhmdmfiaaShareQ
namespace Go.Proofs.Ytkhjlpjhmdmfiaa
open Go Go.RowKit Go.Proofs

def fitA (c : Nat → Int) : Nat → Bool
  | 0 => true
  | n + 1 => fitA c n && fitB (c n)
theorem fitA_all {c : Nat → Int} : ∀ {n : Nat}, fitA c n = true → ∀ j, j < n → fitB (c j) = true
  | 0, _, j, h => by omega
  | n + 1, h, j, hj => by
    simp [fitA] at h
    by_cases e : j = n
    · rw [e]; exact h.2
    · exact fitA_all h.1 j (by omega)
theorem fitA_not {c : Nat → Int} {j : Nat} : ∀ {n : Nat}, j < n → fitB (c j) = false → fitA c n = false
  | 0, h, _ => by omega
  | n + 1, h, e => by
    by_cases ej : j = n
    · subst ej; simp [fitA, e]
    · simp [fitA, fitA_not (n := n) (by omega) e]
theorem fitA_of {c : Nat → Int} : ∀ {n : Nat}, (∀ j, j < n → fitB (c j) = true) → fitA c n = true
  | 0, _ => rfl
  | n + 1, h => by simp [fitA, fitA_of (n := n) (fun j hj => h j (by omega)), h n (by omega)]
/-- What is wrong with items and weights. -/
def itemsE (n : Nat) (wt : Nat → Int) (m : Nat) (c : Nat → Int) : Int := if weighE n wt = 0 then (if 64 < m then 5 else if fitA c m = true then 0 else 9) else weighE n wt
/-- Items lie in memory. -/
def ItemsIn (w : World) (p : Option Addr) (m : Nat) (code : Nat → ByteArray) (c : Nat → Int) : Prop :=
  m = 0 ∨ ∃ b o, p = some ⟨b, o, none⟩ ∧ ∀ j, j < m → w.cell? ⟨b, o + j * 2, none⟩ = some (.string (code j)) ∧ w.cell? ⟨b, o + j * 2 + 1, none⟩ = some (.int .i64 (c j))
theorem ItemsIn.below {w w' : World} {p : Option Addr} {m B : Nat} {code : Nat → ByteArray} {c : Nat → Int} (h : ItemsIn w p m code c) (hB : w.heap.size ≤ B) (hb : Below B w w') : ItemsIn w' p m code c := by
  rcases h with h | ⟨b, o, rfl, hc⟩
  · exact .inl h
  · refine .inr ⟨b, o, rfl, fun j hj => ?_⟩
    obtain ⟨h1, h2⟩ := hc j hj
    have hbl : b < w.heap.size := World.block_lt_of_cell? w _ h1
    exact ⟨(hb.cell (p := ⟨b, o + j * 2, none⟩) (Nat.lt_of_lt_of_le hbl hB)).trans h1, (hb.cell (p := ⟨b, o + j * 2 + 1, none⟩) (Nat.lt_of_lt_of_le hbl hB)).trans h2⟩

set_option maxHeartbeats 2000000 in
set_option maxRecDepth 100000 in
theorem Items_err (p q : Option Addr) (n cq m cp : Nat) (wt : Nat → Int) (code : Nat → ByteArray) (c : Nat → Int) (w : World) (hn : n ≤ 9223372036854775807) (hm : m ≤ 9223372036854775807) (h : Wts w q n wt) (hi : ItemsIn w p m code c) (he : itemsE n wt m c ≠ 0) :
    Calls Try.prog 18 #[.slice p m cp, .slice q n cq] w fun e w' => e = .returned (.tuple #[.slice none 0 0, .int .i64 (itemsE n wt m c)]) ∧ Below w.heap.size w w' := by
  have HW := Lib.hid (weigh_any q n cq wt w hn h)
  have HI := Lib.hid hi
  clear h hi
  by_cases h0 : weighE n wt = 0
  · have hV : weighV n wt = sumN (natW wt) n := (weigh_zero h0).2.2.2.2
    rw [h0] at HW
    generalize weighV n wt = V at HW hV
    clear hV
    by_cases h64 : 64 < m
    · rw [show itemsE n wt m c = 5 by simp [itemsE, h0, h64]]
      have d1 : (64 : Int) < (m : Int) := by omega
      go_enter Try.func18, Try.ntmps18
      go_wp2_with fail
      refine (HW.out).mono ?_
      rintro e w1 ⟨rfl, hw⟩
      rw [hw]
      go_wp2
      go_ret2
      exact ⟨rfl, Below.refl _ _⟩
    · have d1 : ¬ (64 : Int) < (m : Int) := by omega
      have hfa : fitA c m = false := by
        cases hf : fitA c m
        · rfl
        · exfalso; exact he (by simp [itemsE, h0, h64, hf])
      rw [show itemsE n wt m c = 9 by simp [itemsE, h0, h64, hfa]]
      go_enter Try.func18, Try.ntmps18
      go_wp2_with fail
      refine (HW.out).mono ?_
      rintro e w1 ⟨rfl, hw⟩
      rw [hw]
      go_wp2
      go_loopw [9, 29] (fun _ kv wr => ∃ k : Nat, k ≤ m ∧ kv = .int .i64 k ∧ Hid (fitA c k = true) ∧ Below w.heap.size w wr) (fun _ kv _ => m - (RowKit.intOf kv).toNat)
      case atStart => exact ⟨0, by omega, rfl, Lib.hid rfl, Below.refl _ _⟩
      case round =>
        obtain ⟨k, hk, rfl, HF, hb⟩ := hrel
        by_cases hlt : k < m
        · rcases HI.out with h | ⟨b, o, rfl, hc⟩
          · omega
          obtain ⟨c1, c2⟩ := hc k hlt
          have hbl : b < w.heap.size := World.block_lt_of_cell? w _ c1
          have e1 := (hb.cell (p := ⟨b, o + k * 2, none⟩) hbl).trans c1
          have e2 := (hb.cell (p := ⟨b, o + k * 2 + 1, none⟩) hbl).trans c2
          have i1 : (k : Int) < (m : Int) := by omega
          clear c1 c2 hc HI
          have hbA := hb.alloc hb.size (.cells #[.string (code k), .int .i64 (c k)] 47)
          cases hf : fitB (c k)
          case false =>
            clear HF hb
            generalize c k = v at e2 hf hbA
            generalize code k = u at e1 hbA
            go_wp2_with fail
            refine (fits_any _ _).mono ?_
            rintro e w2 ⟨rfl, hw2⟩
            rw [hw2]
            go_wp2
            go_ret2
            exact ⟨rfl, hbA⟩
          case true =>
            have HF2 : Hid (fitA c (k + 1) = true) := Lib.hid (by simp [fitA, HF.out, hf])
            clear HF hb
            generalize c k = v at e2 hf hbA
            generalize code k = u at e1 hbA
            go_wp2_with fail
            refine (fits_any _ _).mono ?_
            rintro e w2 ⟨rfl, hw2⟩
            rw [hw2]
            go_wp2
            exact ⟨⟨k + 1, by omega, by go_num, HF2, hbA⟩, by simp [RowKit.intOf]; omega⟩
        · obtain rfl : m = k := by omega
          have := HF.out
          rw [hfa] at this
          cases this
  · rw [show itemsE n wt m c = weighE n wt by simp [itemsE, h0]]
    generalize weighE n wt = E at HW h0 ⊢
    have dE : (E != 0) = true := by simp [h0]
    go_enter Try.func18, Try.ntmps18
    go_wp2_with fail
    refine (HW.out).mono ?_
    rintro e w1 ⟨rfl, hw⟩
    rw [hw]
    go_wp2
    go_ret2
    exact ⟨rfl, Below.refl _ _⟩

/-- Item by item, list by list: what the lists hold at an offset, where list k is done up to row d. -/
def gridV (code : Nat → ByteArray) (P : Nat → Nat → Int) (k d o : Nat) : Value := if o / 2 < d then (if o % 2 = 0 then .string (code (o / 2)) else .int .i64 (P (o / 2) k)) else (if o % 2 = 0 then .string ⟨#[]⟩ else .int .i64 0)
/-- Part k of item j. -/
def partV (n : Nat) (nw : Nat → Nat) (c : Nat → Int) (F : Nat → Nat → Nat) (j k : Nat) : Int := sg (c j) * (bump (F j) (whN (c j).natAbs (sumN nw n) nw) (leftN (c j).natAbs (sumN nw n) nw n) k : Int)
/-- The lists of items lie in memory. -/
def Grid (w : World) (g n m : Nat) (code : Nat → ByteArray) (P : Nat → Nat → Int) : Prop :=
  ∀ k, k < n → ∃ a cap, w.cell? ⟨g, k, none⟩ = some (.slice a m cap) ∧ ∀ j, j < m → ∃ b, a = some ⟨b, 0, none⟩ ∧ w.cell? ⟨b, j * 2, none⟩ = some (.string (code j)) ∧ w.cell? ⟨b, j * 2 + 1, none⟩ = some (.int .i64 (P j k))
/-- What Items leaves. -/
def ItemsOk (n m : Nat) (nw : Nat → Nat) (code : Nat → ByteArray) (c : Nat → Int) (w : World) (e : Ending) (w' : World) : Prop :=
  ∃ g F, e = .returned (.tuple #[.slice (some ⟨g, 0, none⟩) n n, .int .i64 0]) ∧ w.heap.size ≤ g ∧ g < w'.heap.size ∧ (∀ j, j < m → Good (rsN (c j).natAbs (sumN nw n) nw) (F j) 0 n) ∧ Grid w' g n m code (partV n nw c F) ∧ Below w.heap.size w w'
theorem infoItem : (Try.prog.info? 47).map (fun i => (i.zero, i.size, i.bytes)) = some (some (.agg #[.string ⟨#[]⟩, .int .i64 0]), 2, 24) := by kernel_rfl
theorem infoItems : (Try.prog.info? 41).map (fun i => (i.zero, i.size, i.bytes)) = some (some (.slice none 0 0), 1, 24) := by kernel_rfl

/-- make of a slice of any elements. -/
theorem make_any {t e : TypeId} {z : Value} {s b : Nat} (ht : Try.prog.underlying t = some (.slice e)) (hi : (Try.prog.info? e).map (fun i => (i.zero, i.size, i.bytes)) = some (some z, s, b)) (hb : b ≤ 64) (hs : s ≤ 64) (n : Nat) (hn : n ≤ 1000) (W : World) :
    (Instr.makeSlice t (.int .i64 (n : Int)) (.int .i64 (n : Int))).run Try.prog W = .ok (.slice (some ⟨W.heap.size, 0, none⟩) n n) (W.alloc (.cells (madeCells z.cells (n * s)) e)) := by
  obtain ⟨i, hi, hz, hsz, hby⟩ := info_of hi
  have h1 : n * i.bytes ≤ 1000 * 64 := Nat.mul_le_mul hn (by omega)
  have h2 : n * i.size ≤ 1000 * 64 := Nat.mul_le_mul hn (by omega)
  have h := run_make (P := Try.prog) W t e i z ht hi hz .i64 .i64 n n (by omega) (by omega) (by rw [← Int.natCast_mul, Nat.mul_comm]; omega) (by omega)
  rw [hsz, Int.toNat_natCast] at h
  exact h
theorem madeAt {z : Array Value} {n o : Nat} (h : o < n) : (madeCells z n)[o]? = some (z[o % z.size]!) := by
  unfold madeCells
  rw [Array.getElem?_map, show (Array.range n)[o]? = some o by simp [h]]
  rfl
theorem made_items (W : World) (m : Nat) (e : TypeId) (code : Nat → ByteArray) (P : Nat → Nat → Int) (k : Nat) : RowV (W.alloc (.cells (madeCells #[.string ⟨#[]⟩, .int .i64 0] (m * 2)) e)) W.heap.size (m * 2) (gridV code P k 0) := fun o ho => by
  refine ⟨?_, by simp [World.frozen?_alloc_mark]⟩
  rw [World.cell?_alloc_new]
  show (madeCells #[.string ⟨#[]⟩, .int .i64 0] (m * 2))[o]? = _
  rw [madeAt ho]
  unfold gridV
  rw [if_neg (by omega)]
  rcases (show o % 2 = 0 ∨ o % 2 = 1 by omega) with h | h
  · rw [if_pos h]
    show some (#[Value.string ⟨#[]⟩, .int .i64 0][o % 2]!) = _
    rw [h]; rfl
  · rw [if_neg (by omega)]
    show some (#[Value.string ⟨#[]⟩, .int .i64 0][o % 2]!) = _
    rw [h]; rfl
theorem made_nils (W : World) (n : Nat) (e : TypeId) : RowV (W.alloc (.cells (madeCells #[.slice none 0 0] n) e)) W.heap.size n (fun _ => .slice none 0 0) := fun o ho => by
  refine ⟨?_, by simp [World.frozen?_alloc_mark]⟩
  rw [World.cell?_alloc_new]
  show (madeCells #[.slice none 0 0] n)[o]? = _
  rw [madeAt (by omega)]
  show some (#[Value.slice none 0 0][o % 1]!) = _
  rw [Nat.mod_one]; rfl
theorem RowV.congr {w : World} {g n : Nat} {u v : Nat → Value} (h : RowV w g n u) (e : ∀ j, j < n → u j = v j) : RowV w g n v := fun j hj => by rw [← e j hj]; exact h j hj

theorem grid_congr {code : Nat → ByteArray} {P Q : Nat → Nat → Int} {k d : Nat} (h : ∀ i, i < d → P i k = Q i k) (o : Nat) : gridV code P k d o = gridV code Q k d o := by
  unfold gridV
  by_cases e : o / 2 < d
  · rw [if_pos e, if_pos e, h _ e]
  · rw [if_neg e, if_neg e]
/-- One more item in a list. -/
theorem grid_next {code : Nat → ByteArray} {P : Nat → Nat → Int} {k j o : Nat} {v : Int} (hv : v = P j k) : (if o = j * 2 + 1 then Value.int .i64 v else if o = j * 2 then .string (code j) else gridV code P k j o) = gridV code P k (j + 1) o := by
  unfold gridV
  by_cases e1 : o = j * 2 + 1
  · rw [if_pos e1, if_pos (by omega), if_neg (by omega), hv, show o / 2 = j by omega]
  · rw [if_neg e1]
    by_cases e2 : o = j * 2
    · rw [if_pos e2, if_pos (by omega), if_pos (by omega), show o / 2 = j by omega]
    · rw [if_neg e2]
      by_cases e3 : o / 2 < j
      · rw [if_pos e3, if_pos (show o / 2 < j + 1 by omega)]
      · rw [if_neg e3, if_neg (show ¬ o / 2 < j + 1 by omega)]
theorem partV_put {n : Nat} {nw : Nat → Nat} {c : Nat → Int} {F : Nat → Nat → Nat} {f : Nat → Nat} {j i k : Nat} (h : i < j) : partV n nw c F i k = partV n nw c (fun i => if i = j then f else F i) i k := by
  unfold partV
  simp only [if_neg (show ¬ i = j by omega)]

set_option maxHeartbeats 2000000 in
set_option maxRecDepth 100000 in
theorem Items_ok (p q : Option Addr) (n cq m cp : Nat) (wt : Nat → Int) (code : Nat → ByteArray) (c : Nat → Int) (w : World) (h : Wts w q n wt) (hi : ItemsIn w p m code c) (he : itemsE n wt m c = 0) :
    Calls Try.prog 18 #[.slice p m cp, .slice q n cq] w (ItemsOk n m (natW wt) code c w) := by
  have h0 : weighE n wt = 0 := by
    by_cases h0 : weighE n wt = 0
    · exact h0
    · simp [itemsE, h0] at he
  have h64 : ¬ 64 < m := fun h => by simp [itemsE, h0, h] at he
  have hfa : fitA c m = true := by
    cases hf : fitA c m
    · simp [itemsE, h0, h64, hf] at he
    · rfl
  obtain ⟨n0, n64, hall, hpos, hV⟩ := weigh_zero h0
  have HW := Lib.hid (weigh_any q n cq wt w (by omega) h)
  rw [h0, hV] at HW
  have HI := Lib.hid hi
  have d1 : ¬ (64 : Int) < (m : Int) := by omega
  clear he h0 hV hi
  rcases h with h | ⟨wb, wo, rfl, hcw⟩
  · omega
  have hin := allIn_all hall
  have HCW : Hid (∀ j, j < n → w.cell? ⟨wb, wo + j, none⟩ = some (.int .i64 (natW wt j : Int))) := Lib.hid (fun j hj => by
    rw [hcw j hj]; congr 2; unfold natW; have := hin j hj; omega)
  have hwbl : wb < w.heap.size := World.block_lt_of_cell? w _ (hcw 0 n0)
  have hSb : sumN (natW wt) n ≤ 72057594037927936 := by
    have h1 := sumN_bound (r := natW wt) (b := 1125899906842624) n (fun j hj => by unfold natW; have := hin j hj; omega)
    have h2 := Nat.mul_le_mul_right 1125899906842624 n64
    omega
  clear hcw hin hall
  unfold ItemsOk
  generalize natW wt = nw at HW HCW hSb hpos ⊢
  go_enter Try.func18, Try.ntmps18
  go_wp2_with fail
  refine (HW.out).mono ?_
  rintro e w1 ⟨rfl, hw⟩
  rw [hw]
  clear hw HW
  go_wp2
  go_loopw [9, 29] (fun _ kv wr => ∃ k : Nat, k ≤ m ∧ kv = .int .i64 k ∧ Below w.heap.size w wr) (fun _ kv _ => m - (RowKit.intOf kv).toNat)
  case atStart => exact ⟨0, by omega, rfl, Below.refl _ _⟩
  case round =>
    obtain ⟨k, hk, rfl, hb⟩ := hrel
    by_cases hlt : k < m
    · rcases HI.out with h | ⟨b, o, rfl, hc⟩
      · omega
      obtain ⟨c1, c2⟩ := hc k hlt
      have hbl : b < w.heap.size := World.block_lt_of_cell? w _ c1
      have e1 := (hb.cell (p := ⟨b, o + k * 2, none⟩) hbl).trans c1
      have e2 := (hb.cell (p := ⟨b, o + k * 2 + 1, none⟩) hbl).trans c2
      have i1 : (k : Int) < (m : Int) := by omega
      have hbA := hb.alloc hb.size (.cells #[.string (code k), .int .i64 (c k)] 47)
      have hf := fitA_all hfa k hlt
      clear c1 c2 hc HI hb
      generalize c k = v at e2 hf hbA
      generalize code k = u at e1 hbA
      go_wp2_with fail
      refine (fits_any _ _).mono ?_
      rintro e w2 ⟨rfl, hw2⟩
      rw [hw2]
      go_wp2
      exact ⟨⟨k + 1, by omega, by go_num, hbA⟩, by simp [RowKit.intOf]; omega⟩
    · obtain rfl : m = k := by omega
      obtain ⟨G, hG⟩ : ∃ G, G = wr.heap.size := ⟨_, rfl⟩
      have hmk1 := make_any (z := .slice none 0 0) Try.underlying42 infoItems (by omega) (by omega) n (by omega) wr
      rw [Nat.mul_one] at hmk1
      have HR0 : Hid (RowV (wr.alloc (.cells (madeCells #[.slice none 0 0] n) 41)) G n (fun i => if i < 0 then .slice (some ⟨G + 1 + i, 0, none⟩) m m else .slice none 0 0)) := Lib.hid (by rw [hG]; exact (made_nils wr n 41).congr (fun j _ => by simp))
      have hB0 := hb.alloc hb.size (.cells (madeCells #[.slice none 0 0] n) 41)
      have hs0 : (wr.alloc (.cells (madeCells #[.slice none 0 0] n) 41)).heap.size = G + 1 := by rw [hG]; simp
      have hwG : w.heap.size ≤ G := by rw [hG]; exact hb.size
      rw [← hG] at hmk1
      clear hG hb hlt hk
      go_wp2
      generalize (wr.alloc (.cells (madeCells #[.slice none 0 0] n) 41)) = W0 at HR0 hB0 hs0 ⊢
      go_loopw [11, 43] (fun _ kv wr => ∃ k : Nat, k ≤ n ∧ kv = .int .i64 k ∧ Hid (wr.heap.size = G + 1 + k) ∧ Hid (RowV wr G n (fun i => if i < k then .slice (some ⟨G + 1 + i, 0, none⟩) m m else .slice none 0 0)) ∧ Hid (∀ i, i < k → RowV wr (G + 1 + i) (m * 2) (gridV code (fun _ _ => 0) i 0)) ∧ Below w.heap.size w wr) (fun _ kv _ => n - (RowKit.intOf kv).toNat)
      case atStart => exact ⟨0, by omega, rfl, Lib.hid hs0, HR0, Lib.hid (fun i hi => by omega), hB0⟩
      case round =>
        clear HR0 hs0 hB0 hmk1
        obtain ⟨k, hk, rfl, HSZ, HR, HG, hb⟩ := hrel
        by_cases hlt : k < n
        · have hsz := HSZ.out
          have hmk2 := make_any (z := .agg #[.string ⟨#[]⟩, .int .i64 0]) Try.underlying41 infoItem (by omega) (by omega) m (by omega) wr
          rw [hsz] at hmk2
          have hfar : Below (G + 1 + k) wr (wr.alloc (.cells (madeCells #[.string ⟨#[]⟩, .int .i64 0] (m * 2)) 47)) := (Below.refl _ _).alloc (by omega) _
          have hrow := HR.out.below hfar (by omega)
          obtain ⟨ck, fk⟩ := hrow k hlt
          have hnew := made_items wr m 47 code (fun _ _ => 0) k
          rw [hsz] at hnew
          have hbA := hb.alloc hb.size (.cells (madeCells #[.string ⟨#[]⟩, .int .i64 0] (m * 2)) 47)
          have HG2 : Hid (∀ i, i < k + 1 → RowV ((wr.alloc (.cells (madeCells #[.string ⟨#[]⟩, .int .i64 0] (m * 2)) 47)).setCell ⟨G, k, none⟩ (.slice (some ⟨G + 1 + k, 0, none⟩) m m)) (G + 1 + i) (m * 2) (gridV code (fun _ _ => 0) i 0)) := Lib.hid (fun i hi => by
            refine RowV.far ?_ _ _ _ (by omega)
            by_cases e : i = k
            · rw [e]; exact hnew
            · exact (HG.out i (by omega)).below hfar (by omega))
          have HR2 : Hid (RowV ((wr.alloc (.cells (madeCells #[.string ⟨#[]⟩, .int .i64 0] (m * 2)) 47)).setCell ⟨G, k, none⟩ (.slice (some ⟨G + 1 + k, 0, none⟩) m m)) G n (fun i => if i < k + 1 then .slice (some ⟨G + 1 + i, 0, none⟩) m m else .slice none 0 0)) := Lib.hid ((hrow.store k (.slice (some ⟨G + 1 + k, 0, none⟩) m m)).congr (fun j _ => by
            by_cases e : j = k
            · rw [if_pos e, if_pos (by omega), e]
            · rw [if_neg e]
              by_cases e2 : j < k
              · rw [if_pos e2, if_pos (by omega)]
              · rw [if_neg e2, if_neg (by omega)]))
          have hbB := hbA.setCell (p := ⟨G, k, none⟩) hwG (.slice (some ⟨G + 1 + k, 0, none⟩) m m)
          have HSZ2 : Hid (((wr.alloc (.cells (madeCells #[.string ⟨#[]⟩, .int .i64 0] (m * 2)) 47)).setCell ⟨G, k, none⟩ (.slice (some ⟨G + 1 + k, 0, none⟩) m m)).heap.size = G + 1 + (k + 1)) := Lib.hid (by simp [hsz]; omega)
          have i1 : (k : Int) < (n : Int) := by omega
          simp only [Nat.lt_irrefl, if_false] at ck
          clear HSZ HR HG hfar hrow hnew hbA hb hsz
          go_wp2
          exact ⟨⟨k + 1, by omega, by go_num, HSZ2, HR2, HG2, hbB⟩, by simp [RowKit.intOf]; omega⟩
        · obtain rfl : n = k := by omega
          have HR1 : Hid (RowV wr G n (fun i => .slice (some ⟨G + 1 + i, 0, none⟩) m m)) := Lib.hid (HR.out.congr (fun j hj => by rw [if_pos hj]))
          have HG1 : Hid (∀ i, i < n → RowV wr (G + 1 + i) (m * 2) (gridV code (partV n nw c (fun _ _ => 0)) i 0)) := Lib.hid (fun i hi => (HG.out i hi).congr (fun o _ => grid_congr (fun i hi => by omega) o))
          have hsz1 : G + 1 + n ≤ wr.heap.size := by rw [HSZ.out]; omega
          clear HSZ HR HG hlt hk
          go_wp2
          go_loopw [12, 13, 14, 15, 55] (fun _ _ _ _ jv wr => ∃ j : Nat, ∃ F : Nat → Nat → Nat, j ≤ m ∧ jv = .int .i64 j ∧ G + 1 + n ≤ wr.heap.size ∧ Hid (RowV wr G n (fun i => .slice (some ⟨G + 1 + i, 0, none⟩) m m)) ∧ Hid (∀ i, i < n → RowV wr (G + 1 + i) (m * 2) (gridV code (partV n nw c F) i j)) ∧ Hid (∀ i, i < j → Good (rsN (c i).natAbs (sumN nw n) nw) (F i) 0 n) ∧ Below w.heap.size w wr) (fun _ _ _ _ jv _ => m - (RowKit.intOf jv).toNat)
          case atStart => exact ⟨0, fun _ _ => 0, by omega, rfl, hsz1, HR1, HG1, Lib.hid (fun i hi => by omega), hb⟩
          case round =>
            clear HR1 HG1 hsz1 hb
            obtain ⟨j, F, hj, rfl, hsz, HR, HG, HF, hb⟩ := hrel
            by_cases hlt : j < m
            · rcases HI.out with h | ⟨b, o, rfl, hc⟩
              · omega
              obtain ⟨c1, c2⟩ := hc j hlt
              have hbl : b < w.heap.size := World.block_lt_of_cell? w _ c1
              have e1 := (hb.cell (p := ⟨b, o + j * 2, none⟩) hbl).trans c1
              have e2 := (hb.cell (p := ⟨b, o + j * 2 + 1, none⟩) hbl).trans c2
              have i1 : (j : Int) < (m : Int) := by omega
              have hbA := hb.alloc hb.size (.cells #[.string (code j), .int .i64 (c j)] 47)
              obtain ⟨B, hB⟩ : ∃ B, B = wr.heap.size := ⟨_, rfl⟩
              have hW1s : (wr.alloc (.cells #[.string (code j), .int .i64 (c j)] 47)).heap.size = B + 1 := by rw [hB]; simp
              have hbox : (wr.alloc (.cells #[.string (code j), .int .i64 (c j)] 47)).cell? ⟨B, 0, none⟩ = some (.string (code j)) := by rw [hB, World.cell?_alloc_new]; rfl
              have hSP := Lib.hid (split_any (c j) wb wo n cq (sumN nw n) nw (wr.alloc (.cells #[.string (code j), .int .i64 (c j)] 47)) (fitA_all hfa j hlt) n64 (by have := hb.size; omega) (fun i hi => (hbA.cell (p := ⟨wb, wo + i, none⟩) hwbl).trans (HCW.out i hi)) rfl hpos hSb)
              have hfar : Below B wr (wr.alloc (.cells #[.string (code j), .int .i64 (c j)] 47)) := (Below.refl _ _).alloc (by omega) _
              have HR1 := Lib.hid (HR.out.below hfar (by omega))
              have HG1 : Hid (∀ i, i < n → RowV (wr.alloc (.cells #[.string (code j), .int .i64 (c j)] 47)) (G + 1 + i) (m * 2) (gridV code (partV n nw c F) i j)) := Lib.hid (fun i hi => (HG.out i hi).below hfar (by omega))
              have hBG : G + 1 + n ≤ B := by omega
              clear c1 c2 hc HR HG hfar hsz hb
              go_wp2_with fail
              refine (hSP.out).mono ?_
              rintro e w2 ⟨g2, f, rfl, x1, x2, x3, x4, x5⟩
              have hbox2 : w2.cell? ⟨B, 0, none⟩ = some (.string (code j)) := (x5.cell (p := ⟨B, 0, none⟩) (by rw [hW1s]; exact Nat.lt_succ_self B)).trans hbox
              have hB2 : Below w.heap.size w w2 := hbA.trans (x5.mono hbA.size)
              have HR2 := Lib.hid (HR1.out.below x5 (by rw [hW1s]; omega))
              have HG2 : Hid (∀ i, i < n → RowV w2 (G + 1 + i) (m * 2) (gridV code (partV n nw c (fun i => if i = j then f else F i)) i j)) := Lib.hid (fun i hi => ((HG1.out i hi).below x5 (by rw [hW1s]; omega)).congr (fun o _ => grid_congr (fun i hi => partV_put hi) o))
              have HP2 : Hid (RowV w2 g2 n (fun k => .int .i64 (partV n nw c (fun i => if i = j then f else F i) j k))) := Lib.hid (x4.congr (fun k _ => by unfold partV; simp only [if_true]))
              have HF2 : Hid (∀ i, i < j + 1 → Good (rsN (c i).natAbs (sumN nw n) nw) ((fun i => if i = j then f else F i) i) 0 n) := Lib.hid (fun i hi => by
                by_cases e : i = j
                · rw [e]; simp only [if_true]; exact x3
                · simp only [if_neg e]; exact HF.out i (by omega))
              have hg2 : B < g2 := by rw [hW1s] at x1; omega
              have hsz2 : B < w2.heap.size := by have := x5.size; rw [hW1s] at this; omega
              generalize (fun i => if i = j then f else F i) = F' at HG2 HP2 HF2
              clear hSP x1 x3 x4 x5 HR1 HG1 HF hbox hbA e1 e2 hW1s
              rw [← hB]
              clear hB
              generalize hcj : code j = u at hbox2
              have HU := Lib.hid hcj
              clear hcj
              go_wp2
              go_loopw [14, 15, 66] (fun _ _ kv wr => ∃ k : Nat, k ≤ n ∧ kv = .int .i64 k ∧ B < wr.heap.size ∧ wr.cell? ⟨B, 0, none⟩ = some (.string u) ∧ Hid (RowV wr G n (fun i => .slice (some ⟨G + 1 + i, 0, none⟩) m m)) ∧ Hid (∀ i, i < n → RowV wr (G + 1 + i) (m * 2) (gridV code (partV n nw c F') i (if i < k then j + 1 else j))) ∧ Hid (RowV wr g2 n (fun k => .int .i64 (partV n nw c F' j k))) ∧ Below w.heap.size w wr) (fun _ _ kv _ => n - (RowKit.intOf kv).toNat)
              case atStart => exact ⟨0, by omega, rfl, hsz2, hbox2, HR2, Lib.hid (fun i hi => by rw [if_neg (by omega)]; exact HG2.out i hi), HP2, hB2⟩
              case round =>
                clear hbox2 HR2 HG2 HP2 hB2 hsz2
                obtain ⟨k, hk, rfl, hsz, hbox, HR, HG, HP, hb⟩ := hrel
                by_cases hkn : k < n
                · have ck := (HR.out k hkn).1
                  have cp2 := (HP.out k hkn).1
                  obtain ⟨t0, f0⟩ := HG.out k hkn (j * 2) (by omega)
                  obtain ⟨t1, f1⟩ := HG.out k hkn (j * 2 + 1) (by omega)
                  have i2 : (k : Int) < (n : Int) := by omega
                  obtain ⟨v, hv⟩ : ∃ v, v = partV n nw c F' j k := ⟨_, rfl⟩
                  simp only [← hv] at cp2
                  generalize gridV code (partV n nw c F') k (if k < k then j + 1 else j) (j * 2) = z0 at t0
                  generalize gridV code (partV n nw c F') k (if k < k then j + 1 else j) (j * 2 + 1) = z1 at t1
                  have HR3 : Hid (RowV ((wr.setCell ⟨G + 1 + k, j * 2, none⟩ (.string u)).setCell ⟨G + 1 + k, j * 2 + 1, none⟩ (.int .i64 v)) G n (fun i => .slice (some ⟨G + 1 + i, 0, none⟩) m m)) := Lib.hid ((HR.out.far _ _ _ (by omega)).far _ _ _ (by omega))
                  have HP3 : Hid (RowV ((wr.setCell ⟨G + 1 + k, j * 2, none⟩ (.string u)).setCell ⟨G + 1 + k, j * 2 + 1, none⟩ (.int .i64 v)) g2 n (fun k => .int .i64 (partV n nw c F' j k))) := Lib.hid ((HP.out.far _ _ _ (by omega)).far _ _ _ (by omega))
                  have HG3 : Hid (∀ i, i < n → RowV ((wr.setCell ⟨G + 1 + k, j * 2, none⟩ (.string u)).setCell ⟨G + 1 + k, j * 2 + 1, none⟩ (.int .i64 v)) (G + 1 + i) (m * 2) (gridV code (partV n nw c F') i (if i < k + 1 then j + 1 else j))) := Lib.hid (fun i hi => by
                    by_cases e : i = k
                    · subst e
                      rw [if_pos (by omega)]
                      have h1 := HG.out i hi
                      rw [if_neg (by omega)] at h1
                      refine ((h1.store (j * 2) (.string u)).store (j * 2 + 1) (.int .i64 v)).congr (fun o _ => ?_)
                      have h2 := grid_next (code := code) (P := partV n nw c F') (k := i) (j := j) (o := o) hv
                      rw [HU.out] at h2
                      exact h2
                    · have h1 := HG.out i hi
                      rw [show (if i < k + 1 then j + 1 else j) = (if i < k then j + 1 else j) by
                        by_cases e2 : i < k
                        · rw [if_pos e2, if_pos (by omega)]
                        · rw [if_neg e2, if_neg (by omega)]]
                      exact (h1.far _ _ _ (by omega)).far _ _ _ (by omega))
                  have hb3 : Below w.heap.size w ((wr.setCell ⟨G + 1 + k, j * 2, none⟩ (.string u)).setCell ⟨G + 1 + k, j * 2 + 1, none⟩ (.int .i64 v)) := (hb.setCell (p := ⟨G + 1 + k, j * 2, none⟩) (by show w.heap.size ≤ G + 1 + k; omega) _).setCell (p := ⟨G + 1 + k, j * 2 + 1, none⟩) (by show w.heap.size ≤ G + 1 + k; omega) _
                  have hbox3 : ((wr.setCell ⟨G + 1 + k, j * 2, none⟩ (.string u)).setCell ⟨G + 1 + k, j * 2 + 1, none⟩ (.int .i64 v)).cell? ⟨B, 0, none⟩ = some (.string u) := by
                    rw [World.cell?_setCell_other _ _ _ _ (by intro h; injection h; omega), World.cell?_setCell_other _ _ _ _ (by intro h; injection h; omega)]
                    exact hbox
                  have hsz3 : B < ((wr.setCell ⟨G + 1 + k, j * 2, none⟩ (.string u)).setCell ⟨G + 1 + k, j * 2 + 1, none⟩ (.int .i64 v)).heap.size := by simpa using hsz
                  have HX3 := Lib.hid hbox3
                  clear HR HP HG hb hv hbox3
                  go_wp2
                  go_region
                  go_wp2
                  exact ⟨⟨k + 1, by omega, by go_num, hsz3, HX3.out, Lib.hid HR3.out, Lib.hid HG3.out, Lib.hid HP3.out, below_drewN hb3 1⟩, by simp [RowKit.intOf]; omega⟩
                · obtain rfl : n = k := by omega
                  have HG3 : Hid (∀ i, i < n → RowV wr (G + 1 + i) (m * 2) (gridV code (partV n nw c F') i (j + 1))) := Lib.hid (fun i hi => by have := HG.out i hi; rwa [if_pos hi] at this)
                  clear HG HP
                  go_wp2
                  exact ⟨⟨j + 1, F', by omega, by go_num, by omega, HR, HG3, HF2, hb⟩, by simp [RowKit.intOf]; omega⟩
            · obtain rfl : m = j := by omega
              have hsg : G < wr.heap.size := by omega
              have hgrid : Grid wr G n m code (partV n nw c F) := fun k hk => by
                obtain ⟨h1, -⟩ := HR.out k hk
                refine ⟨_, _, h1, fun j hj => ⟨_, rfl, ?_, ?_⟩⟩
                · have h2 := (HG.out k hk (j * 2) (by omega)).1
                  unfold gridV at h2
                  rw [if_pos (by omega), if_pos (by omega), show j * 2 / 2 = j by omega] at h2
                  exact h2
                · have h2 := (HG.out k hk (j * 2 + 1) (by omega)).1
                  unfold gridV at h2
                  rw [if_pos (by omega), if_neg (by omega), show (j * 2 + 1) / 2 = j by omega] at h2
                  exact h2
              have HGR := Lib.hid hgrid
              clear HR HG hgrid
              go_wp2
              go_ret2
              exact ⟨G, F, rfl, hwG, hsg, HF.out, HGR.out, hb⟩

end Go.Proofs.Ytkhjlpjhmdmfiaa
